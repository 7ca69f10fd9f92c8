import Derived.Test.YtkfjaeoehhakpaaJe
import Derived.Test.YtkfjaeoehhakpaaJa
import Derived.Test.YtkfjaeoehhakpaaLb
import Derived.Test.YtkfjaeoehhakpaaVa
import Derived.Test.YtkfjaeoehhakpaaR7
import Derived.Test.YtkfjaeoehhakpaaVf
import Derived.Test.YtkfjaeoehhakpaaNum
import Derived.Test.YtkfjaeoehhakpaaTn
import Derived.Test.YtkfjaeoehhakpaaTq
set_option linter.unusedVariables false
set_option linter.unusedSimpArgs false
namespace Go.Proofs.Ytkfjaeoehhakpaa
open Go.RowKit
set_option linter.unusedSimpArgs false
def rgEq (e e' : Rg) : Bool := e.f == e'.f && e.t == e'.t
def rgEqs : List Rg → List Rg → Bool
  | [], [] => true
  | x :: t, y :: u => rgEq x y && rgEqs t u
  | _, _ => false
theorem rgEq_iff {e e' : Rg} : rgEq e e' = true ↔ e = e' := by
  cases e; cases e'
  simp [rgEq, and_assoc]
theorem rgEqs_iff : ∀ {l l' : List Rg}, rgEqs l l' = true ↔ l = l'
  | [], [] => by simp [rgEqs]
  | [], _ :: _ => by simp [rgEqs]
  | _ :: _, [] => by simp [rgEqs]
  | x :: t, y :: u => by rw [rgEqs, Bool.and_eq_true, rgEq_iff, rgEqs_iff, List.cons.injEq]
theorem rgEqs_refl (l : List Rg) : rgEqs l l = true := rgEqs_iff.2 rfl
theorem rgEqs_len {l l' : List Rg} (h : l.length ≠ l'.length) : rgEqs l l' = false := by
  rw [Bool.eq_false_iff]
  intro hn
  rw [rgEqs_iff.1 hn] at h
  exact h rfl
def rgMk (c : Int) (i : Nat) : Rg := ⟨c + 2 * (i : Int), c + 2 * (i : Int) + 1⟩
def rgMks (c : Int) (n : Nat) : List Rg := (List.range n).map (rgMk c)
theorem rgMks_len (c : Int) (n : Nat) : (rgMks c n).length = n := by simp [rgMks]
theorem rgMks_set (c : Int) (l : List Rg) (k : Nat) (h : k < l.length) : (rgMks c k ++ l.drop k).set k (rgMk c k) = rgMks c (k + 1) ++ l.drop (k + 1) := by
  have e : (rgMks c k).length = k := rgMks_len c k
  rw [List.set_append_right _ _ (by omega), e, Nat.sub_self, List.drop_eq_getElem_cons h, List.set_cons_zero, rgMks, rgMks, List.range_succ, List.map_append]
  simp
theorem rgRows_set (l : List Rg) (k : Nat) (e : Rg) : (rgRows l).set k [D.v (.int .i64 e.f), D.v (.int .i64 e.t)] = rgRows (l.set k e) := by
  rw [rgRows, rgRows, List.map_set]; rfl
def g_rgEq : PC := fun args => match args with
  | [.agg [.v (.int .i64 f), .v (.int .i64 t)], .agg [.v (.int .i64 f'), .v (.int .i64 t')]] => some (True, .v (.bool (rgEq ⟨f, t⟩ ⟨f', t'⟩)), [])
  | _ => none
def g_rgEqS : PC := fun args => match args with
  | [.l _ rows, .l _ rows'] => some ((∃ l, rows = rgRows l ∧ l.length ≤ 1048577) ∧ ∃ l, rows' = rgRows l ∧ l.length ≤ 1048577, .v (.bool (rgEqs (rgsOf rows) (rgsOf rows'))), [])
  | _ => none
def g_rgMarkS : OC := fun args B0 => match args, B0 with
  | [.own r, .v (.int .i64 c)], [.sl T sz rows] => some (r = 0 ∧ T = 62 ∧ sz = 2 ∧ (∃ l, rows = rgRows l ∧ l.length ≤ 1048577) ∧ 0 ≤ c ∧ c ≤ 1099511627776, .v (.int .i64 (c + 2 * (rows.length : Int))), [.sl T sz (rgRows (rgMks c rows.length))], [])
  | _, _ => none
def g_rgHeldS : PC := fun args => match args with
  | [.l _ rows, .v (.int .i64 c)] => some ((∃ m, rows = rgRows (rgMks c m) ∧ m ≤ 1048577) ∧ 0 ≤ c ∧ c ≤ 1099511627776, .v (.int .i64 (c + 2 * (rows.length : Int))), [])
  | _ => none
set_option maxRecDepth 100000 in
theorem eqRange_ok : PureOk Try.prog 46 g_rgEq := by
  refine PureOk.of_vc (G := []) (by simp) mixed Try.func46 (by kernel_rfl) rfl ?_
  intro args cnd r bs hg hc
  unfold g_rgEq at hg
  split at hg
  · rename_i f t f' t'
    cases hg
    refine ⟨⟨rfl, by simp, by simp [AV.ids, AV.ids.idsL]⟩, _, rfl, fun w vs h => h, ?_⟩
    simp (maxSteps := 3000000) only [Try.f46, tYs, evL, implies_true, oMin, x_min3, oMin3, x_max, oMax, oCopy, oBin, oUn, oLoadKid, oStoreTree, oField, oExtract, oNil, oSliceQ, oSliceE, x_appendZ, oAppendZ, oSliceEnd, endMode, oLoadRow, takeCells, TS.atRow, TS.ex, treeMode, AV.isOwn, TK.isSl, nilTk, nilsB, oLenQ, oLen, nodupB, treeOf, kidAbs, kidRows, TK.isCell, D.toL, oLoad, oStore, oMake, oIndexAddr, ↓reduceIte, reduceCtorEq, Nat.reduceBEq, Nat.reduceAdd, Nat.reduceMul, Nat.reduceLT, Nat.reduceSub, Nat.reduceLeDiff, Nat.reduceEqDiff, Nat.reduceBneDiff, Int.reduceToNat, decide_eq_true_eq, decide_eq_false_iff_not, beq_iff_eq, Int.toNat_natCast]
    repeat' split
    all_goals (refine ⟨_, [], rfl, ⟨⟨⟨?_, rfl, rfl⟩, trivial⟩, by simp [hpAt, fitH], by simp [hpAt]⟩⟩; refine congrArg (fun b => AV.v (Value.bool b)) ?_; first | rfl | (rw [Bool.eq_iff_iff]; simp only [rgEq, decide_eq_true_eq, inZ, Bool.and_eq_true, Bool.or_eq_true, bne_iff_ne, Bool.false_eq_true, beq_eq_false_iff_ne, beq_iff_eq, Bool.and_eq_true, ne_eq, decide_eq_false_iff_not, Bool.not_eq_eq_eq_not, Bool.not_true, Bool.not_false, false_iff, iff_false, true_iff, iff_true] at *; omega))
  · cases hg
def rgeqs : List (FuncId × Abs) := [(46, pureAbs g_rgEq)]
theorem rgeqs_ok : ∀ p ∈ rgeqs, CallOk Try.prog p.1 p.2 := by
  intro p hp
  simp only [rgeqs, List.mem_cons, List.not_mem_nil, or_false] at hp
  rcases hp with rfl
  · exact eqRange_ok.call
set_option maxHeartbeats 1000000 in
set_option maxRecDepth 100000 in
theorem eqRangeS_ok : PureOk Try.prog 27 g_rgEqS := by
  refine PureOk.of_vc (G := rgeqs) rgeqs_ok mixed Try.func27 (by kernel_rfl) rfl ?_
  intro args cnd r bs hg hc
  unfold g_rgEqS at hg
  split at hg
  · rename_i sz rows sz' rows'
    cases hg
    obtain ⟨⟨l, rfl, hl⟩, l', rfl, hl'⟩ := hc
    rw [rgsOf_rows, rgsOf_rows]
    refine ⟨⟨rfl, by simp, by simp [AV.ids, AV.ids.idsL]⟩, [.l 2 (rgRows l), .l 2 (rgRows l')], rfl, fun w vs h => CvL.ok (.cons (.l _ _ _ (rgRows_w l)) (.cons (.l _ _ _ (rgRows_w l')) .nil)) h, ?_⟩
    simp (maxSteps := 3000000) only [Try.f27, rgeqs, rgRows_len, tYs, evL, implies_true, oMin, x_min3, oMin3, x_max, oMax, oCopy, oBin, oUn, oLoadKid, oStoreTree, oField, oExtract, oNil, oSliceQ, oSliceE, x_appendZ, oAppendZ, oSliceEnd, endMode, oLoadRow, takeCells, TS.atRow, TS.ex, treeMode, AV.isOwn, TK.isSl, nilTk, nilsB, oLenQ, oLen, nodupB, treeOf, kidAbs, kidRows, TK.isCell, D.toL, oLoad, oStore, oMake, oIndexAddr, ↓reduceIte, reduceCtorEq, Nat.reduceBEq, Nat.reduceAdd, Nat.reduceMul, Nat.reduceLT, Nat.reduceSub, Nat.reduceLeDiff, Nat.reduceEqDiff, Nat.reduceBneDiff, Int.reduceToNat, decide_eq_true_eq, decide_eq_false_iff_not, beq_iff_eq, Int.toNat_natCast]
    by_cases hne : l.length = l'.length
    · first | rw [if_neg (by simp [hne])] | rw [if_pos (by simp [hne])]
      refine e_loop _ _ _ _ _ _ _ _ (fun k : Nat => [.l 2 (rgRows l), .l 2 (rgRows l'), .any, .any, .any, .v (.int .i64 (k : Int))] ++ List.replicate (Try.f27.ntmps - 6) .any) (fun k => []) (fun k => k ≤ l.length ∧ rgEqs l l' = rgEqs (l.drop k) (l'.drop k)) (fun k => l.length - k) 0 (fun k => by simp) ?_ fun k hk' => ?_
      · exact ⟨0, [], ⟨Nat.zero_le _, rfl⟩, ⟨⟨⟨rfl, rfl, rfl⟩, ⟨rfl, rfl, rfl⟩, trivial, trivial, trivial, ⟨rfl, rfl, rfl⟩, fitT_rep _ _ rfl⟩, trivial, by simp [rn, hpAt]⟩, by simp [keepIds]⟩
      obtain ⟨hk1, hinv⟩ := hk'
      have w2 : IntKind.i64.wrap ((k : Int) + 1) = ((k + 1 : Nat) : Int) := by rw [wrap_id] <;> omega
      by_cases hk : k < l.length
      · have hrow := rgRows_get l k hk
        have hlt : ((k : Int) < (l.length : Int)) = True := eq_true (by omega)
        have h0 : (0 ≤ (k : Int)) = True := eq_true (by omega)
        have hrow' := rgRows_get l' k (by omega)
        have hlt' : ((k : Int) < (l'.length : Int)) = True := eq_true (by omega)
        rw [List.drop_eq_getElem_cons hk, List.drop_eq_getElem_cons (show k < l'.length by omega), rgEqs] at hinv
        cases he : rgEq l[k] l'[k] with
        | true =>
          rw [he, Bool.true_and] at hinv
          skip
          simp (maxSteps := 3000000) only [Try.f27, rgeqs, g_rgEq, rgRows_len, rgsOf_rows, hrow, hrow', hlt, hlt', h0, he, D.toI, D.toL, tYs, evL, implies_true, oMin, x_min3, oMin3, x_max, oMax, oCopy, oBin, oUn, oLoadKid, oStoreTree, oField, oExtract, oNil, oSliceQ, oSliceE, x_appendZ, oAppendZ, oSliceEnd, endMode, oLoadRow, takeCells, TS.atRow, TS.ex, treeMode, AV.isOwn, TK.isSl, nilTk, nilsB, oLenQ, oLen, nodupB, treeOf, kidAbs, kidRows, TK.isCell, D.toL, oLoad, oStore, oMake, oIndexAddr, ↓reduceIte, reduceCtorEq, Nat.reduceBEq, Nat.reduceAdd, Nat.reduceMul, Nat.reduceLT, Nat.reduceSub, Nat.reduceLeDiff, Nat.reduceEqDiff, Nat.reduceBneDiff, Int.reduceToNat, decide_eq_true_eq, decide_eq_false_iff_not, beq_iff_eq, Int.toNat_natCast, loopK_normal, loopK_exit, loopK_ret, w2]
          exact ⟨by kernel_rfl, k + 1, [], ⟨by omega, hinv⟩, by omega, ⟨⟨⟨rfl, rfl, rfl⟩, ⟨rfl, rfl, rfl⟩, trivial, trivial, trivial, ⟨rfl, rfl, rfl⟩, fitT_rep _ _ rfl⟩, trivial, by simp [rn, hpAt]⟩, by simp [keepIds]⟩
        | false =>
          rw [he, Bool.false_and] at hinv
          skip
          simp (maxSteps := 3000000) only [Try.f27, rgeqs, g_rgEq, rgRows_len, rgsOf_rows, hrow, hrow', hlt, hlt', h0, he, D.toI, D.toL, tYs, evL, implies_true, oMin, x_min3, oMin3, x_max, oMax, oCopy, oBin, oUn, oLoadKid, oStoreTree, oField, oExtract, oNil, oSliceQ, oSliceE, x_appendZ, oAppendZ, oSliceEnd, endMode, oLoadRow, takeCells, TS.atRow, TS.ex, treeMode, AV.isOwn, TK.isSl, nilTk, nilsB, oLenQ, oLen, nodupB, treeOf, kidAbs, kidRows, TK.isCell, D.toL, oLoad, oStore, oMake, oIndexAddr, ↓reduceIte, reduceCtorEq, Nat.reduceBEq, Nat.reduceAdd, Nat.reduceMul, Nat.reduceLT, Nat.reduceSub, Nat.reduceLeDiff, Nat.reduceEqDiff, Nat.reduceBneDiff, Int.reduceToNat, decide_eq_true_eq, decide_eq_false_iff_not, beq_iff_eq, Int.toNat_natCast, loopK_normal, loopK_exit, loopK_ret, w2]
          rw [hinv]
          refine ⟨by kernel_rfl, ?_⟩
          exact ⟨_, [], rfl, ⟨⟨⟨rfl, rfl, rfl⟩, trivial⟩, trivial, by simp [rn, hpAt]⟩⟩
      · have hlt : ((k : Int) < (l.length : Int)) = False := eq_false (by omega)
        simp (maxSteps := 3000000) only [Try.f27, rgeqs, rgRows_len, rgsOf_rows, hlt, D.toI, D.toL, tYs, evL, implies_true, oMin, x_min3, oMin3, x_max, oMax, oCopy, oBin, oUn, oLoadKid, oStoreTree, oField, oExtract, oNil, oSliceQ, oSliceE, x_appendZ, oAppendZ, oSliceEnd, endMode, oLoadRow, takeCells, TS.atRow, TS.ex, treeMode, AV.isOwn, TK.isSl, nilTk, nilsB, oLenQ, oLen, nodupB, treeOf, kidAbs, kidRows, TK.isCell, D.toL, oLoad, oStore, oMake, oIndexAddr, ↓reduceIte, reduceCtorEq, Nat.reduceBEq, Nat.reduceAdd, Nat.reduceMul, Nat.reduceLT, Nat.reduceSub, Nat.reduceLeDiff, Nat.reduceEqDiff, Nat.reduceBneDiff, Int.reduceToNat, decide_eq_true_eq, decide_eq_false_iff_not, beq_iff_eq, Int.toNat_natCast, loopK_normal, loopK_exit, loopK_ret, w2]
        rw [List.drop_eq_nil_of_le (by omega), List.drop_eq_nil_of_le (by omega), rgEqs] at hinv
        rw [hinv]
        exact ⟨_, [], rfl, ⟨⟨⟨rfl, rfl, rfl⟩, trivial⟩, trivial, by simp [rn, hpAt]⟩⟩
    · first | rw [if_pos (by simp; omega)] | rw [if_neg (by simp; omega)]
      rw [rgEqs_len hne]
      exact ⟨_, [], rfl, ⟨⟨⟨rfl, rfl, rfl⟩, trivial⟩, trivial, by simp [rn, hpAt]⟩⟩
  · cases hg
set_option maxHeartbeats 2000000 in
set_option maxRecDepth 100000 in
theorem markRangeS_ok : OwnOk Try.prog 28 g_rgMarkS := by
  refine OwnOk.of_vc (G := []) (by simp) mixed Try.func28 (by kernel_rfl) rfl ?_
  intro args B0 cnd r B1 bs hg hc hlive
  unfold g_rgMarkS at hg
  split at hg
  · rename_i r c T sz rows
    cases hg
    obtain ⟨rfl, rfl, rfl, ⟨l, rfl, hl⟩, hc0, hc1⟩ := hc
    rw [rgRows_len]
    refine ⟨⟨by simp [likeBs, likeB, rgRows_len, rgMks_len], by simp [Blk.liveB, blkIds, AV.ids.idsL, AV.ids], by simp [AV.ids]⟩, _, rfl, fun w Z s vs h => h, ?_⟩
    clear hlive
    simp (maxSteps := 3000000) only [Try.f28, tYs, evL, implies_true, oMin, x_min3, oMin3, x_max, oMax, oCopy, oBin, oUn, oLoadKid, oStoreTree, oField, oExtract, oNil, oSliceQ, oSliceE, x_appendZ, oAppendZ, oSliceEnd, endMode, oLoadRow, takeCells, TS.atRow, TS.ex, treeMode, AV.isOwn, TK.isSl, nilTk, nilsB, oLenQ, oLen, nodupB, treeOf, kidAbs, kidRows, TK.isCell, D.toL, oLoad, oStore, oMake, oIndexAddr, ↓reduceIte, reduceCtorEq, Nat.reduceBEq, Nat.reduceAdd, Nat.reduceMul, Nat.reduceLT, Nat.reduceSub, Nat.reduceLeDiff, Nat.reduceEqDiff, Nat.reduceBneDiff, Int.reduceToNat, decide_eq_true_eq, decide_eq_false_iff_not, beq_iff_eq, Int.toNat_natCast]
    refine e_loop _ _ _ _ _ _ _ _ (fun k : Nat => [.own 0, .v (.int .i64 (c + 2 * (k : Int))), .any, .any, .any, .v (.int .i64 (k : Int))] ++ List.replicate (Try.f28.ntmps - 6) .any) (fun k => [(0, .sl 62 2 (rgRows (rgMks c k ++ l.drop k)))]) (fun k => k ≤ l.length) (fun k => l.length - k) 1 (fun k => by simp) ?_ fun k hk' => ?_
    · exact ⟨0, [(0, some 0)], Nat.zero_le _, ⟨⟨⟨rfl, rfl, rfl⟩, ⟨congrArg (fun z => AV.v (Value.int .i64 z)) (by omega), rfl, rfl⟩, trivial, trivial, trivial, ⟨rfl, rfl, rfl⟩, fitT_rep _ _ rfl⟩, ⟨.inl rfl, rfl, rfl, rfl, trivial⟩, by simp [rn, hpAt]⟩, by simp [keepIds, rn]⟩
    have hsl : (rgRows (rgMks c k ++ l.drop k)).length = l.length := by rw [rgRows_len, List.length_append, rgMks_len, List.length_drop]; omega
    have w2 : IntKind.i64.wrap ((k : Int) + 1) = ((k + 1 : Nat) : Int) := by rw [wrap_id] <;> omega
    by_cases hk : k < l.length
    · have hrow := rgRows_get l k hk
      have hlt : ((k : Int) < (l.length : Int)) = True := eq_true (by omega)
      have h0 : (0 ≤ (k : Int)) = True := eq_true (by omega)
      have u0 : IntKind.i64.wrap (c + 2 * (k : Int) + 1) = c + 2 * (k : Int) + 1 := by rw [wrap_id] <;> omega
      have u1 : IntKind.i64.wrap (c + 2 * (k : Int) + 1 + 1) = c + 2 * ((k + 1 : Nat) : Int) := by rw [wrap_id] <;> omega
      have hrw : (rgRows (rgMks c k ++ l.drop k)).getD k [] = [D.v (.int .i64 l[k].f), D.v (.int .i64 l[k].t)] := by
        rw [List.getD_eq_getElem?_getD, rgRows, List.getElem?_map, List.getElem?_append_right (by rw [rgMks_len]; omega), rgMks_len, Nat.sub_self, List.getElem?_drop, Nat.add_zero, List.getElem?_eq_getElem hk]; rfl
      have hset : ∀ r : List D, ((rgRows (rgMks c k ++ l.drop k)).set k r).getD k [] = r := fun r => by
        rw [List.getD_eq_getElem?_getD, List.getElem?_set_self (by rw [hsl]; exact hk)]; rfl
      have hfin : (rgRows (rgMks c k ++ l.drop k)).set k [D.v (.int .i64 (rgMk c k).f), D.v (.int .i64 (rgMk c k).t)] = rgRows (rgMks c (k + 1) ++ l.drop (k + 1)) := by rw [rgRows_set, rgMks_set c l k hk]
      simp only [rgMk] at hfin
      simp (maxSteps := 3000000) only [Try.f28, hsl, hrw, hset, hlt, h0, List.set_set, List.length_set, u0, u1, tYs, evL, implies_true, oMin, x_min3, oMin3, x_max, oMax, oCopy, oBin, oUn, oLoadKid, oStoreTree, oField, oExtract, oNil, oSliceQ, oSliceE, x_appendZ, oAppendZ, oSliceEnd, endMode, oLoadRow, takeCells, TS.atRow, TS.ex, treeMode, AV.isOwn, TK.isSl, nilTk, nilsB, oLenQ, oLen, nodupB, treeOf, kidAbs, kidRows, TK.isCell, D.toL, oLoad, oStore, oMake, oIndexAddr, ↓reduceIte, reduceCtorEq, Nat.reduceBEq, Nat.reduceAdd, Nat.reduceMul, Nat.reduceLT, Nat.reduceSub, Nat.reduceLeDiff, Nat.reduceEqDiff, Nat.reduceBneDiff, Int.reduceToNat, decide_eq_true_eq, decide_eq_false_iff_not, beq_iff_eq, Int.toNat_natCast, loopK_normal, loopK_exit, loopK_ret, w2]
      repeat' first
        | refine And.intro (by omega) ?_
        | refine And.intro (by kernel_rfl) ?_
      rw [hfin]
      exact ⟨k + 1, [(0, some _)], by omega, by omega, ⟨⟨⟨rfl, rfl, rfl⟩, ⟨rfl, rfl, rfl⟩, trivial, trivial, trivial, ⟨rfl, rfl, rfl⟩, fitT_rep _ _ rfl⟩, ⟨.inl rfl, rfl, rfl, rfl, trivial⟩, by simp [rn, hpAt]⟩, by simp [keepIds, rn]⟩
    · have hlt : ((k : Int) < (l.length : Int)) = False := eq_false (by omega)
      simp (maxSteps := 3000000) only [Try.f28, hsl, hlt, tYs, evL, implies_true, oMin, x_min3, oMin3, x_max, oMax, oCopy, oBin, oUn, oLoadKid, oStoreTree, oField, oExtract, oNil, oSliceQ, oSliceE, x_appendZ, oAppendZ, oSliceEnd, endMode, oLoadRow, takeCells, TS.atRow, TS.ex, treeMode, AV.isOwn, TK.isSl, nilTk, nilsB, oLenQ, oLen, nodupB, treeOf, kidAbs, kidRows, TK.isCell, D.toL, oLoad, oStore, oMake, oIndexAddr, ↓reduceIte, reduceCtorEq, Nat.reduceBEq, Nat.reduceAdd, Nat.reduceMul, Nat.reduceLT, Nat.reduceSub, Nat.reduceLeDiff, Nat.reduceEqDiff, Nat.reduceBneDiff, Int.reduceToNat, decide_eq_true_eq, decide_eq_false_iff_not, beq_iff_eq, Int.toNat_natCast, loopK_normal, loopK_exit, loopK_ret, w2]
      obtain rfl : k = l.length := by omega
      rw [List.drop_length, List.append_nil]
      exact ⟨[(0, some 0)], ⟨⟨⟨rfl, rfl, rfl⟩, trivial⟩, ⟨.inl rfl, rfl, rfl, rfl, trivial⟩, by simp [rn, hpAt]⟩, by simp [keepIds, rn]⟩
  · cases hg
set_option maxHeartbeats 1000000 in
set_option maxRecDepth 100000 in
theorem heldRangeS_ok : PureOk Try.prog 29 g_rgHeldS := by
  refine PureOk.of_vc (G := []) (by simp) mixed Try.func29 (by kernel_rfl) rfl ?_
  intro args cnd r bs hg hc
  unfold g_rgHeldS at hg
  split at hg
  · rename_i sz rows c
    cases hg
    obtain ⟨⟨m, rfl, hl⟩, hc0, hc1⟩ := hc
    rw [rgRows_len, rgMks_len]
    refine ⟨⟨rfl, by simp, by simp [AV.ids, AV.ids.idsL]⟩, [.l 2 (rgRows (rgMks c m)), .v (.int .i64 c)], rfl, fun w vs h => CvL.ok (.cons (.l _ _ _ (rgRows_w _)) (.cons (.refl _) .nil)) h, ?_⟩
    simp (maxSteps := 3000000) only [Try.f29, rgRows_len, rgMks_len, tYs, evL, implies_true, oMin, x_min3, oMin3, x_max, oMax, oCopy, oBin, oUn, oLoadKid, oStoreTree, oField, oExtract, oNil, oSliceQ, oSliceE, x_appendZ, oAppendZ, oSliceEnd, endMode, oLoadRow, takeCells, TS.atRow, TS.ex, treeMode, AV.isOwn, TK.isSl, nilTk, nilsB, oLenQ, oLen, nodupB, treeOf, kidAbs, kidRows, TK.isCell, D.toL, oLoad, oStore, oMake, oIndexAddr, ↓reduceIte, reduceCtorEq, Nat.reduceBEq, Nat.reduceAdd, Nat.reduceMul, Nat.reduceLT, Nat.reduceSub, Nat.reduceLeDiff, Nat.reduceEqDiff, Nat.reduceBneDiff, Int.reduceToNat, decide_eq_true_eq, decide_eq_false_iff_not, beq_iff_eq, Int.toNat_natCast]
    refine e_loop _ _ _ _ _ _ _ _ (fun k : Nat => [.l 2 (rgRows (rgMks c m)), .v (.int .i64 (c + 2 * (k : Int))), .any, .any, .any, .v (.int .i64 (k : Int))] ++ List.replicate (Try.f29.ntmps - 6) .any) (fun k => []) (fun k => k ≤ m) (fun k => m - k) 0 (fun k => by simp) ?_ fun k hk' => ?_
    · exact ⟨0, [], Nat.zero_le _, ⟨⟨⟨rfl, rfl, rfl⟩, ⟨congrArg (fun z => AV.v (Value.int .i64 z)) (by omega), rfl, rfl⟩, trivial, trivial, trivial, ⟨rfl, rfl, rfl⟩, fitT_rep _ _ rfl⟩, trivial, by simp [rn, hpAt]⟩, by simp [keepIds]⟩
    have w2 : IntKind.i64.wrap ((k : Int) + 1) = ((k + 1 : Nat) : Int) := by rw [wrap_id] <;> omega
    by_cases hk : k < m
    · have hrow := rgRows_get (rgMks c m) k (by rw [rgMks_len]; exact hk)
      have hmk : (rgMks c m)[k]'(by rw [rgMks_len]; exact hk) = rgMk c k := by simp [rgMks]
      rw [hmk] at hrow
      simp only [rgMk] at hrow
      have hlt : ((k : Int) < (m : Int)) = True := eq_true (by omega)
      have h0 : (0 ≤ (k : Int)) = True := eq_true (by omega)
      have u0 : IntKind.i64.wrap (c + 2 * (k : Int) + 1) = c + 2 * (k : Int) + 1 := by rw [wrap_id] <;> omega
      have n0 : ((c + 2 * (k : Int)) != (c + 2 * (k : Int))) = false := by simp
      have u1 : IntKind.i64.wrap (c + 2 * (k : Int) + 1 + 1) = c + 2 * ((k + 1 : Nat) : Int) := by rw [wrap_id] <;> omega
      have n1 : ((c + 2 * (k : Int) + 1) != (c + 2 * (k : Int) + 1)) = false := by simp
      simp (maxSteps := 3000000) only [Try.f29, rgRows_len, rgMks_len, hrow, hlt, h0, D.toI, u0, n0, u1, n1, tYs, evL, implies_true, oMin, x_min3, oMin3, x_max, oMax, oCopy, oBin, oUn, oLoadKid, oStoreTree, oField, oExtract, oNil, oSliceQ, oSliceE, x_appendZ, oAppendZ, oSliceEnd, endMode, oLoadRow, takeCells, TS.atRow, TS.ex, treeMode, AV.isOwn, TK.isSl, nilTk, nilsB, oLenQ, oLen, nodupB, treeOf, kidAbs, kidRows, TK.isCell, D.toL, oLoad, oStore, oMake, oIndexAddr, ↓reduceIte, reduceCtorEq, Nat.reduceBEq, Nat.reduceAdd, Nat.reduceMul, Nat.reduceLT, Nat.reduceSub, Nat.reduceLeDiff, Nat.reduceEqDiff, Nat.reduceBneDiff, Int.reduceToNat, decide_eq_true_eq, decide_eq_false_iff_not, beq_iff_eq, Int.toNat_natCast, loopK_normal, loopK_exit, loopK_ret, w2]
      repeat' first
        | refine And.intro (by omega) ?_
        | refine And.intro (by kernel_rfl) ?_
      exact ⟨k + 1, [], by omega, by omega, ⟨⟨⟨rfl, rfl, rfl⟩, ⟨rfl, rfl, rfl⟩, trivial, trivial, trivial, ⟨rfl, rfl, rfl⟩, fitT_rep _ _ rfl⟩, trivial, by simp [rn, hpAt]⟩, by simp [keepIds]⟩
    · have hlt : ((k : Int) < (m : Int)) = False := eq_false (by omega)
      simp (maxSteps := 3000000) only [Try.f29, rgRows_len, rgMks_len, hlt, tYs, evL, implies_true, oMin, x_min3, oMin3, x_max, oMax, oCopy, oBin, oUn, oLoadKid, oStoreTree, oField, oExtract, oNil, oSliceQ, oSliceE, x_appendZ, oAppendZ, oSliceEnd, endMode, oLoadRow, takeCells, TS.atRow, TS.ex, treeMode, AV.isOwn, TK.isSl, nilTk, nilsB, oLenQ, oLen, nodupB, treeOf, kidAbs, kidRows, TK.isCell, D.toL, oLoad, oStore, oMake, oIndexAddr, ↓reduceIte, reduceCtorEq, Nat.reduceBEq, Nat.reduceAdd, Nat.reduceMul, Nat.reduceLT, Nat.reduceSub, Nat.reduceLeDiff, Nat.reduceEqDiff, Nat.reduceBneDiff, Int.reduceToNat, decide_eq_true_eq, decide_eq_false_iff_not, beq_iff_eq, Int.toNat_natCast, loopK_normal, loopK_exit, loopK_ret, w2]
      obtain rfl : k = m := by omega
      exact ⟨_, [], rfl, ⟨⟨⟨rfl, rfl, rfl⟩, trivial⟩, trivial, by simp [rn, hpAt]⟩⟩
  · cases hg
end Go.Proofs.Ytkfjaeoehhakpaa
