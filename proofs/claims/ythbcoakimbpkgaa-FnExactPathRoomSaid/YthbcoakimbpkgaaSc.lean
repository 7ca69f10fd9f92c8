import Derived.Test.YthbcoakimbpkgaaSb
import Derived.Test.YthbcoakimbpkgaaC2f
namespace Go.Proofs.Ythbcoakimbpkgaa
open Go.RowKit
set_option linter.unusedSimpArgs false
theorem kept_below {a w : World} (h : KeptF (fun _ => False) a w) : Below a.heap.size a w := ⟨h.os, h.tape, h.output, h.size, fun k hk => h.block k hk (fun e => e.elim)⟩
theorem below_kept {a w : World} (h : Below a.heap.size a w) : KeptF (fun _ => False) a w := ⟨h.os, h.tape, h.output, h.size, fun k hk _ => h.block k hk⟩
theorem rep_of_rd {w : World} {A : Option Addr} {n c : Nat} {xs : List UInt8} (h : Rd w w.heap.size A n (bv xs)) (hc : n ≤ c) : Rep w (Zold w) (.l 1 (rowsOfBytes xs)) (.slice A n c) := by
  have hl := rd_len h
  by_cases hn : 0 < n
  · obtain ⟨b, off, rfl, hb, hcell⟩ := h.cells hn
    have at_ : ∀ i j d, rowAt (rowsOfBytes xs) i j = some d → j = 0 ∧ ∃ x, xs[i]? = some x ∧ d = .v (bval x) := by
      intro i j d hd
      simp only [rowAt, rowsOfBytes, List.getElem?_map] at hd
      cases hx : xs[i]? with
      | none => simp [hx] at hd
      | some x =>
        simp [hx] at hd
        cases j with
        | zero => simp at hd; exact ⟨rfl, x, rfl, hd.symm⟩
        | succ j => simp at hd
    refine .l 1 _ b off n c (fun i _ => bval (xs.getD i 0)) (by rw [rowsOf_len, hl]) hc (rowsOf_w xs) hb (fun i j d hd => ?_) fun i j d hd => ?_
    · obtain ⟨rfl, x, hx, rfl⟩ := at_ i j d hd
      rw [Nat.mul_one, Nat.add_zero]
      refine hcell i _ ?_
      rw [bv_at, hx]
      simp [List.getD, hx]
    · obtain ⟨rfl, x, hx, rfl⟩ := at_ i j d hd
      simp only [List.getD, hx, Option.getD_some]
      exact .v _ rfl
  · have : xs = [] := List.eq_nil_of_length_eq_zero (by omega)
    subst this
    obtain rfl : n = 0 := by omega
    exact .e 1 A c
section
variable {P : Program}
theorem PureOk.of_calls {f : FuncId} {g : PC} (there : ∃ fn c, P.funcs[f]? = some fn ∧ (fn.name == "runtime.NumGoroutine") = false ∧ fn.body = some c)
    (h : ∀ (w : World) (args : List AV) (vs : List Value) (c : Prop) (r : AV) (bs : List Blk), ARel w (Zold w) (fun _ => .none) (fun _ => nilS) args vs → g args = some (c, r, bs) → c → ∃ v, r = .v v ∧ bs = [] ∧ Calls P f vs.toArray w fun e w' => e = .returned v ∧ Below w.heap.size w w') : PureOk P f g := by
  refine ⟨there, fun w args vs c r bs hargs hg hc => ?_⟩
  obtain ⟨v, rfl, rfl, hcall⟩ := h w args vs c r bs hargs hg hc
  refine ⟨⟨rfl, by simp, by simp [AV.ids]⟩, hcall.mono ?_⟩
  rintro e w' ⟨rfl, hb⟩
  refine ⟨v, fun _ => nilS, Zold w, rfl, ⟨fun r => trivial, fun r r' g h1 => h1.elim, fun r g h1 => h1.elim, fun r g h1 => h1.elim, fun b hb' => Nat.lt_of_lt_of_le hb' hb.size, below_kept hb, fun b hb => .inl hb, fun b hb => hb⟩, .v _⟩
theorem PureOk.walk {f : FuncId} {g : PC} (h : PureOk P f g) {args : List AV} {vs : List Value} {w : World} {c : Prop} (ha : ARel w (Zold w) (fun _ => .none) (fun _ => nilS) args vs) (hg : g args = some (c, .v (.bool true), [])) (hc : c) :
    Calls P f vs.toArray w fun e w' => e = .returned (.bool true) ∧ Below w.heap.size w w' := by
  obtain ⟨-, hcall⟩ := h.does w args vs c _ _ ha hg hc
  refine hcall.mono ?_
  rintro e w' ⟨v, s, Z, rfl, hH, hv⟩
  cases hv
  exact ⟨rfl, kept_below hH.kept⟩
end
def g_alive : PC := fun args => match args with
  | [] => some (True, .v (.bool true), [])
  | _ => none
theorem alive_ok : PureOk Try.prog 18 g_alive := by
  refine PureOk.of_calls ⟨_, _, Try.func18, by kernel_rfl, rfl⟩ fun w args vs c r bs hargs hg hc => ?_
  unfold g_alive at hg
  split at hg
  · cases hg
    obtain rfl : vs = [] := List.eq_nil_of_length_eq_zero (by simpa using hargs.1)
    exact ⟨_, rfl, rfl, alive_any w⟩
  · cases hg
end Go.Proofs.Ythbcoakimbpkgaa
namespace Go.Proofs.Ythbcoakimbpkgaa
open Go.RowKit
set_option linter.unusedSimpArgs false
def inZ (v lo hi : Int) : Bool := decide (lo ≤ v ∧ v ≤ hi)
def g_l1In : PC := fun args => match args with
  | [.v (.int .i64 v), .v (.int .i64 a), .v (.int .i64 b)] => some (True, .v (.bool (inZ v a b)), [])
  | _ => none
def frB (t f k : Int) (n : Nat) : Bool := decide (((0 ≤ t ∧ t ≤ 255) ∧ (0 ≤ f ∧ f ≤ 254)) ∧ (0 ≤ k ∧ k ≤ 255) ∧ n ≤ 64)
theorem l1In_ok : PureOk Try.prog 64 g_l1In := by
  refine PureOk.of_vc (G := []) (by simp) mixed Try.func64 (by kernel_rfl) rfl ?_
  intro args cnd r bs hg hc
  unfold g_l1In at hg
  split at hg
  · rename_i v lo hi
    cases hg
    refine ⟨⟨rfl, by simp, by simp [AV.ids]⟩, _, rfl, fun w vs h => h, ?_⟩
    simp only [Try.f64, tY2, tY3, tY4, tY5, tY9, tY12, tY21, tY22, tY23, tY24, tY25, tY30, tY31, tY34, tY35, tY36, tY42, tY47, tY48, tY51, tY55, tY56, tY62, tY63, tY64, tY69, tY76, tY104, tY105, tY109, tY110, tY111, tY114, tY124, tY125, tY137, tY154, tY163, Try.underlying2, Try.underlying3, Try.underlying4, Try.underlying5, Try.underlying9, Try.underlying12, Try.underlying21, Try.underlying22, Try.underlying23, Try.underlying24, Try.underlying25, Try.underlying30, Try.underlying31, Try.underlying34, Try.underlying35, Try.underlying36, Try.underlying42, Try.underlying47, Try.underlying48, Try.underlying51, Try.underlying55, Try.underlying56, Try.underlying62, Try.underlying63, Try.underlying64, Try.underlying69, Try.underlying76, Try.underlying104, Try.underlying105, Try.underlying109, Try.underlying110, Try.underlying111, Try.underlying114, Try.underlying124, Try.underlying125, Try.underlying137, Try.underlying154, Try.underlying163, e_skip, e_label, e_ret, e_exit, e_seq, e_cond, e_block, e_region, seqK_normal, seqK_ret, seqK_exit, blkK_normal, blkK_ret, blkK_exit, condK_some, regK_true, regK_false, e_nil, e_cons, gateK_go, gateK_skip, gateK_ask, pickK_some, exK_some, x_pick, x_move, x_assign, x_alloc, x_box, x_build, x_buildSlice, x_load, x_store, x_binOp, x_unOp, x_convert, x_makeSlice, x_slice, x_fieldAddr, x_field, x_indexAddr, x_extract, x_nilCheck, x_call, x_len, x_append, x_min, oMin, x_copy, oCopy, eqAVs, callK_some, done_ret, done_normal, doneO_ret, doneO_normal, endsO_one, endsO_nil, endsO_more, ownAbs, frzAbs, leafs, leafs.leafsL, uniq, idxOf, bk, zipB, Blk.liveB, gate_none, gate_some, gateS_none, gateS_some, gateV_bool, gateV_undef, boolOf, evA, putT, refn, fpD, oBin, oUn, upsl, upl, up, ups, lk, dstsOf, resL, resA, packA, oLoadQ, oLoadKid, oStoreQ, oStoreTree, oBuildSliceQ, oBuildTree, oAppendQ, oAppendTree, isTr, isTrP, tkd, tkds, tkRows, ownOf, nodupB, deadL, treeOf, kidAbs, kidBlk, kidRows, TK.isCell, D.toL, oLoad, oStore, oAlloc, oBox, oBuild, oBuildSlice, oMake, oAppend, oIndexAddr, oFieldAddr, oField, oExtract, oNil, oSlice, oSliceQ, oLen, oConvert, rowLoad, fillA, fillR, slB, dk, dks, dkRows, frz, loOf, hiOf, lenOf, rowsOf, nilV, lenV, putAt, views, viewsOk, CK.av, CK.ok, AV.cells, AV.one, Value.oneCell', Value.cells, pureAbs, nrm, nrm.nrmL, hpAt, sh, AV.ren, AV.ren.renL, Blk.ren, fpOf, footO, foot, blkIds, AV.ids, AV.ids.idsL, Op.operands, Call.operands, List.find?_cons, List.find?_nil, Nat.reduceBEq, beq_self_eq_true, List.map_cons, List.map_nil, List.getD_cons_zero, List.getD_cons_succ, List.getD_nil, List.set_cons_zero, List.set_cons_succ, List.length_cons, List.length_nil, List.replicate, List.cons_append, List.nil_append, List.append_nil, List.getElem?_cons_zero, List.getElem?_cons_succ, List.getElem?_toArray, List.getElem?_nil, List.take_zero, List.take_succ_cons, List.take_nil, List.drop_zero, List.drop_succ_cons, List.drop_nil, List.headD_cons, List.tail_cons, List.flatten_cons, List.flatten_nil, List.flatMap_cons, List.flatMap_nil, List.toList_toArray, Array.toList_append, Option.bind_some, Option.map_some, Option.map_none, Option.isSome_some, List.all_nil, List.all_cons, Bool.and_self, Bool.and_true, Bool.true_and, true_and, and_true, ↓reduceIte, List.size_toArray, Bool.false_eq_true, Bool.true_eq_false, false_implies, true_implies, Bool.not_true, Bool.not_false, and_self, implies_true, decide_true, decide_false, Nat.reduceAdd, Nat.reduceMul, Nat.reduceLT, Nat.reduceSub, Nat.reduceLeDiff, Nat.reduceEqDiff, eq_self, ne_eq, not_false_eq_true, false_and, and_false, reduceCtorEq, List.filter_nil, List.filter_cons, List.isEmpty_nil, List.isEmpty_cons, bne_self_eq_false, Nat.reduceBneDiff, Nat.lt_add_one, Nat.zero_lt_succ, List.append_assoc, Nat.zero_le, and_self_iff, Int.reduceToNat, List.any_nil, List.any_cons, List.filterMap_nil, List.filterMap_cons, List.contains_nil, List.contains_cons, Bool.or_false, Bool.false_or, Bool.or_true, Bool.true_or, Bool.false_and, Bool.and_false, decide_eq_true_eq, decide_eq_false_iff_not]
    repeat' split
    all_goals (refine ⟨_, [], rfl, ⟨⟨⟨?_, rfl, rfl⟩, trivial⟩, by simp [hpAt, fitH], by simp [hpAt]⟩⟩; refine congrArg (fun b => AV.v (Value.bool b)) ?_; first | rfl | (rw [Bool.eq_iff_iff]; simp only [decide_eq_true_eq, frB, inZ, Bool.false_eq_true, beq_eq_false_iff_ne, beq_iff_eq, ne_eq, decide_eq_false_iff_not, Bool.not_eq_eq_eq_not, Bool.not_true, Bool.not_false, false_iff, iff_false, true_iff, iff_true] at *; omega))
  · cases hg
def g_true : PC := fun args => match args with
  | [.l _ rows] => some (∃ xs, rows = rowsOfBytes xs, .v (.bool true), [])
  | _ => none
end Go.Proofs.Ythbcoakimbpkgaa
namespace Go.Proofs.Ythbcoakimbpkgaa
open Go.RowKit
end Go.Proofs.Ythbcoakimbpkgaa
