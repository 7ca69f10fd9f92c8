import Derived.Test.YtkfjaeoehhakpaaIu
import Derived.Test.YtkfjaeoehhakpaaIf
import Derived.Test.YtkfjaeoehhakpaaMb
import Derived.Test.YtkfjaeoehhakpaaTb
set_option linter.unusedVariables false
set_option linter.unusedSimpArgs false
namespace Go.Proofs.Ytkfjaeoehhakpaa
open Go.RowKit
set_option linter.unusedSimpArgs false
theorem toI12 (k : IntKind) (n : Int) : D.toI (.v (.int k n)) = n := rfl
def g_earEnd : PC := fun args => match args with
  | [.agg [.v (.int .i64 n), .v (.int .i64 room), .l _ rg, .l _ rf]] => some (((∃ xs, rg = rowsOfBytes xs ∧ xs.length ≤ 140737488355328) ∧ ∃ l, rf = erRows l ∧ l.length ≤ 1048577) ∧ (0 ≤ n ∧ n ≤ 1000000) ∧ 0 ≤ room ∧ room ≤ 32, .v (.int .i64 (n + room - ((bytesOfRows rg).length : Int))), [])
  | _ => none
def g_earliesOk : PC := fun args => match args with
  | [.l _ rf, .v (.int .i64 a), .v (.int .i64 b)] => some ((∃ l, rf = erRows l ∧ l.length ≤ 2097152) ∧ 0 ≤ a ∧ b ≤ 2000000, .v (.bool (elB (ersOf rf) a b)), [])
  | _ => none
def g_inRow : PC := fun args => match args with
  | [.l _ rf, .v (.int .i64 a)] => some ((∃ l, rf = erRows l ∧ l.length ≤ 2097152) ∧ 0 ≤ a ∧ a ≤ 2000000, .v (.int .i64 (runE a (ersOf rf) : Int)), [])
  | _ => none
def g_erBytes : PC := fun args => match args with
  | [.l _ rf] => some ((∃ l, rf = erRows l ∧ l.length ≤ 2097152), .own 0, [.sl 5 1 (rowsOfBytes ((ersOf rf).map Er.b))])
  | _ => none
def g_erCopied : PC := fun args => match args with
  | [.l _ rf] => some ((∃ l, rf = erRows l ∧ l.length ≤ 2097152), .own 0, [.sl 51 2 (erRows (ersOf rf))])
  | _ => none
def g_earTaken : PC := fun args => match args with
  | [.agg [.v (.int .i64 n), .v (.int .i64 room), .l _ rg, .l _ rf], .v (.int .i64 a), .l _ rd] => some (((((∃ xs, rg = rowsOfBytes xs ∧ xs.length ≤ 140737488355328) ∧ ∃ l, rf = erRows l ∧ l.length ≤ 1048577) ∧ ∃ ds, rd = rowsOfBytes ds ∧ ds.length ≤ 1048576) ∧ eaB ⟨n, room, bytesOfRows rg, ersOf rf⟩ = true) ∧ inZ a 0 1000000 = true, .own 0, [.sl 51 2 (erRows (hrL ⟨n, room, bytesOfRows rg, ersOf rf⟩ a (bytesOfRows rd)))])
  | _ => none
set_option maxRecDepth 100000 in
theorem earEnd_ok : PureOk Try.prog 36 g_earEnd := by
  refine PureOk.of_vc (G := []) (by simp) mixed Try.func36 (by kernel_rfl) rfl ?_
  intro args cnd r bs hg hc
  unfold g_earEnd at hg
  split at hg
  · rename_i n room sg rg sf rf
    cases hg
    obtain ⟨⟨⟨xs, rfl, hx⟩, l, rfl, hl⟩, hn, hr⟩ := hc
    rw [bytesOf_rows]
    refine ⟨⟨rfl, by simp, by simp [AV.ids, AV.ids.idsL]⟩, [.agg [.v (.int .i64 n), .v (.int .i64 room), .l 1 (rowsOfBytes xs), .l 2 (erRows l)]], rfl, fun w vs h => CvL.ok (.cons (.cons (.refl _) (.cons (.refl _) (.cons (.l _ _ _ (rowsOf_w xs)) (.cons (.l _ _ _ (erRows_w l)) .nil)))) .nil) h, ?_⟩
    have v1 : IntKind.i64.wrap (n + room) = n + room := wrap_id (by omega) (by omega)
    have v2 : IntKind.i64.wrap (n + room - (xs.length : Int)) = n + room - (xs.length : Int) := wrap_id (by omega) (by omega)
    simp (maxSteps := 3000000) only [Try.f36, rowsOf_len, v1, v2, tYs, evL, implies_true, oMin, x_min3, oMin3, x_max, oMax, oCopy, oBin, oUn, oLoadKid, oStoreTree, oField, oExtract, oNil, oSliceQ, oSliceE, x_appendZ, oAppendZ, oSliceEnd, endMode, oLoadRow, takeCells, TS.atRow, TS.ex, treeMode, AV.isOwn, TK.isSl, nilTk, nilsB, oLenQ, oLen, nodupB, treeOf, kidAbs, kidRows, TK.isCell, D.toL, oLoad, oStore, oMake, oIndexAddr, ↓reduceIte, reduceCtorEq, Nat.reduceBEq, Nat.reduceAdd, Nat.reduceMul, Nat.reduceLT, Nat.reduceSub, Nat.reduceLeDiff, Nat.reduceEqDiff, Nat.reduceBneDiff, Int.reduceToNat, decide_eq_true_eq, decide_eq_false_iff_not, beq_iff_eq, Int.toNat_natCast]
    exact ⟨_, [], rfl, ⟨⟨⟨rfl, rfl, rfl⟩, trivial⟩, trivial, by simp [rn, hpAt]⟩⟩
  · cases hg
set_option maxHeartbeats 1000000 in
set_option maxRecDepth 100000 in
theorem earliesOk_ok : PureOk Try.prog 35 g_earliesOk := by
  refine PureOk.of_vc (G := []) (by simp) mixed Try.func35 (by kernel_rfl) rfl ?_
  intro args cnd r bs hg hc
  unfold g_earliesOk at hg
  split at hg
  · rename_i sf rf a b
    cases hg
    obtain ⟨⟨l, rfl, hl⟩, ha, hb⟩ := hc
    rw [ersOf_rows]
    refine ⟨⟨rfl, by simp, by simp [AV.ids, AV.ids.idsL]⟩, [.l 2 (erRows l), .v (.int .i64 a), .v (.int .i64 b)], rfl, fun w vs h => CvL.ok (.cons (.l _ _ _ (erRows_w l)) (.cons (.refl _) (.cons (.refl _) .nil))) h, ?_⟩
    simp (maxSteps := 3000000) only [Try.f35, erRows_len, ↓reduceIte, Bool.not_true, Bool.not_false, ↓reduceIte, Bool.false_eq_true, D.toI, tYs, evL, implies_true, oMin, x_min3, oMin3, x_max, oMax, oCopy, oBin, oUn, oLoadKid, oStoreTree, oField, oExtract, oNil, oSliceQ, oSliceE, x_appendZ, oAppendZ, oSliceEnd, endMode, oLoadRow, takeCells, TS.atRow, TS.ex, treeMode, AV.isOwn, TK.isSl, nilTk, nilsB, oLenQ, oLen, nodupB, treeOf, kidAbs, kidRows, TK.isCell, D.toL, oLoad, oStore, oMake, oIndexAddr, ↓reduceIte, reduceCtorEq, Nat.reduceBEq, Nat.reduceAdd, Nat.reduceMul, Nat.reduceLT, Nat.reduceSub, Nat.reduceLeDiff, Nat.reduceEqDiff, Nat.reduceBneDiff, Int.reduceToNat, decide_eq_true_eq, decide_eq_false_iff_not, beq_iff_eq, Int.toNat_natCast, loopK_normal, loopK_exit, loopK_ret]
    refine e_loop _ _ _ _ _ _ _ _ (fun k : Nat => [.l 2 (erRows l), .v (.int .i64 (elF l a k)), .v (.int .i64 b), .any, .any, .any, .any, .any, .any, .l 2 (erRows l), .v (.int .i64 (l.length : Int)), .v (.int .i64 (k : Int))] ++ List.replicate (Try.f35.ntmps - 12) .any) (fun k => []) (fun k => k ≤ l.length ∧ elJ l a b k) (fun k => l.length - k) 0 (fun k => by simp) ?_ fun k hk' => ?_
    · exact ⟨0, [], ⟨Nat.zero_le _, fun x hx => by simp at hx, List.Pairwise.nil, fun x hx => by simp at hx, Int.le_refl _⟩, ⟨⟨⟨rfl, rfl, rfl⟩, ⟨rfl, rfl, rfl⟩, ⟨rfl, rfl, rfl⟩, trivial, trivial, trivial, trivial, trivial, trivial, ⟨rfl, rfl, rfl⟩, ⟨rfl, rfl, rfl⟩, ⟨rfl, rfl, rfl⟩, fitT_rep _ _ rfl⟩, trivial, by simp [rn, hpAt]⟩, by simp [keepIds]⟩
    obtain ⟨hk1, hinv⟩ := hk'
    have w2 : IntKind.i64.wrap ((k : Int) + 1) = ((k + 1 : Nat) : Int) := by rw [wrap_id] <;> omega
    obtain ⟨f, hf⟩ : ∃ f, f = elF l a k := ⟨_, rfl⟩
    have hfa : a ≤ f := by rw [hf]; exact hinv.2.2.2
    by_cases hk : k < l.length
    · have hrow := erRows_get l k hk
      have hlt : ((k : Int) < (l.length : Int)) = True := eq_true (by omega)
      have h00 : (0 ≤ (k : Int)) = True := eq_true (by omega)
      by_cases q0 : l[k].p < f
      · have d0 : (l[k].p < f) = True := eq_true q0
        have e : elB l a b = false := elB_fault hk (.inl (by rw [← hf]; exact q0))
        rw [e, ← hf]
        simp (maxSteps := 3000000) only [Try.f35, erRows_len, hrow, hlt, h00, d0, w2, Bool.not_true, Bool.not_false, ↓reduceIte, Bool.false_eq_true, D.toI, tYs, evL, implies_true, oMin, x_min3, oMin3, x_max, oMax, oCopy, oBin, oUn, oLoadKid, oStoreTree, oField, oExtract, oNil, oSliceQ, oSliceE, x_appendZ, oAppendZ, oSliceEnd, endMode, oLoadRow, takeCells, TS.atRow, TS.ex, treeMode, AV.isOwn, TK.isSl, nilTk, nilsB, oLenQ, oLen, nodupB, treeOf, kidAbs, kidRows, TK.isCell, D.toL, oLoad, oStore, oMake, oIndexAddr, ↓reduceIte, reduceCtorEq, Nat.reduceBEq, Nat.reduceAdd, Nat.reduceMul, Nat.reduceLT, Nat.reduceSub, Nat.reduceLeDiff, Nat.reduceEqDiff, Nat.reduceBneDiff, Int.reduceToNat, decide_eq_true_eq, decide_eq_false_iff_not, beq_iff_eq, Int.toNat_natCast, loopK_normal, loopK_exit, loopK_ret]
        exact ⟨_, [], rfl, ⟨⟨⟨rfl, rfl, rfl⟩, trivial⟩, trivial, by simp [rn, hpAt]⟩⟩
      have d0 : (l[k].p < f) = False := eq_false q0
      by_cases q1 : l[k].p ≥ b
      · have d1 : (l[k].p ≥ b) = True := eq_true q1
        have e : elB l a b = false := elB_fault hk (.inr q1)
        rw [e, ← hf]
        simp (maxSteps := 3000000) only [Try.f35, erRows_len, hrow, hlt, h00, d0, d1, w2, Bool.not_true, Bool.not_false, ↓reduceIte, Bool.false_eq_true, D.toI, tYs, evL, implies_true, oMin, x_min3, oMin3, x_max, oMax, oCopy, oBin, oUn, oLoadKid, oStoreTree, oField, oExtract, oNil, oSliceQ, oSliceE, x_appendZ, oAppendZ, oSliceEnd, endMode, oLoadRow, takeCells, TS.atRow, TS.ex, treeMode, AV.isOwn, TK.isSl, nilTk, nilsB, oLenQ, oLen, nodupB, treeOf, kidAbs, kidRows, TK.isCell, D.toL, oLoad, oStore, oMake, oIndexAddr, ↓reduceIte, reduceCtorEq, Nat.reduceBEq, Nat.reduceAdd, Nat.reduceMul, Nat.reduceLT, Nat.reduceSub, Nat.reduceLeDiff, Nat.reduceEqDiff, Nat.reduceBneDiff, Int.reduceToNat, decide_eq_true_eq, decide_eq_false_iff_not, beq_iff_eq, Int.toNat_natCast, loopK_normal, loopK_exit, loopK_ret]
        exact ⟨_, [], rfl, ⟨⟨⟨rfl, rfl, rfl⟩, trivial⟩, trivial, by simp [rn, hpAt]⟩⟩
      have d1 : (l[k].p ≥ b) = False := eq_false q1
      have w3 : IntKind.i64.wrap (l[k].p + 1) = elF l a (k + 1) := by
        rw [elF, List.getD_eq_getElem?_getD, List.getElem?_eq_getElem hk, wrap_id (by omega) (by omega)]; rfl
      rw [← hf]
      simp (maxSteps := 3000000) only [Try.f35, erRows_len, hrow, hlt, h00, d0, d1, w2, w3, Bool.not_true, Bool.not_false, ↓reduceIte, Bool.false_eq_true, D.toI, tYs, evL, implies_true, oMin, x_min3, oMin3, x_max, oMax, oCopy, oBin, oUn, oLoadKid, oStoreTree, oField, oExtract, oNil, oSliceQ, oSliceE, x_appendZ, oAppendZ, oSliceEnd, endMode, oLoadRow, takeCells, TS.atRow, TS.ex, treeMode, AV.isOwn, TK.isSl, nilTk, nilsB, oLenQ, oLen, nodupB, treeOf, kidAbs, kidRows, TK.isCell, D.toL, oLoad, oStore, oMake, oIndexAddr, ↓reduceIte, reduceCtorEq, Nat.reduceBEq, Nat.reduceAdd, Nat.reduceMul, Nat.reduceLT, Nat.reduceSub, Nat.reduceLeDiff, Nat.reduceEqDiff, Nat.reduceBneDiff, Int.reduceToNat, decide_eq_true_eq, decide_eq_false_iff_not, beq_iff_eq, Int.toNat_natCast, loopK_normal, loopK_exit, loopK_ret]
      exact ⟨k + 1, [], ⟨by omega, elJ_next hk hinv (by rw [← hf]; omega) (by omega)⟩, by omega, ⟨⟨⟨rfl, rfl, rfl⟩, ⟨rfl, rfl, rfl⟩, ⟨rfl, rfl, rfl⟩, trivial, trivial, trivial, trivial, trivial, trivial, ⟨rfl, rfl, rfl⟩, ⟨rfl, rfl, rfl⟩, ⟨rfl, rfl, rfl⟩, fitT_rep _ _ rfl⟩, trivial, by simp [rn, hpAt]⟩, by simp [keepIds]⟩
    · have hlt : ((k : Int) < (l.length : Int)) = False := eq_false (by omega)
      obtain rfl : k = l.length := by omega
      rw [elB_end hinv]
      simp (maxSteps := 3000000) only [Try.f35, erRows_len, hlt, w2, Bool.not_true, Bool.not_false, ↓reduceIte, Bool.false_eq_true, D.toI, tYs, evL, implies_true, oMin, x_min3, oMin3, x_max, oMax, oCopy, oBin, oUn, oLoadKid, oStoreTree, oField, oExtract, oNil, oSliceQ, oSliceE, x_appendZ, oAppendZ, oSliceEnd, endMode, oLoadRow, takeCells, TS.atRow, TS.ex, treeMode, AV.isOwn, TK.isSl, nilTk, nilsB, oLenQ, oLen, nodupB, treeOf, kidAbs, kidRows, TK.isCell, D.toL, oLoad, oStore, oMake, oIndexAddr, ↓reduceIte, reduceCtorEq, Nat.reduceBEq, Nat.reduceAdd, Nat.reduceMul, Nat.reduceLT, Nat.reduceSub, Nat.reduceLeDiff, Nat.reduceEqDiff, Nat.reduceBneDiff, Int.reduceToNat, decide_eq_true_eq, decide_eq_false_iff_not, beq_iff_eq, Int.toNat_natCast, loopK_normal, loopK_exit, loopK_ret]
      exact ⟨_, [], rfl, ⟨⟨⟨rfl, rfl, rfl⟩, trivial⟩, trivial, by simp [rn, hpAt]⟩⟩
  · cases hg
set_option maxHeartbeats 1000000 in
set_option maxRecDepth 100000 in
theorem inRow_ok : PureOk Try.prog 40 g_inRow := by
  refine PureOk.of_vc (G := []) (by simp) mixed Try.func40 (by kernel_rfl) rfl ?_
  intro args cnd r bs hg hc
  unfold g_inRow at hg
  split at hg
  · rename_i sf rf a
    cases hg
    obtain ⟨⟨l, rfl, hl⟩, ha, hb⟩ := hc
    rw [ersOf_rows]
    refine ⟨⟨rfl, by simp, by simp [AV.ids, AV.ids.idsL]⟩, [.l 2 (erRows l), .v (.int .i64 a)], rfl, fun w vs h => CvL.ok (.cons (.l _ _ _ (erRows_w l)) (.cons (.refl _) .nil)) h, ?_⟩
    have hle := runE_le a l
    have hat : ∀ (k : Nat) (h : k < l.length), k < runE a l → l[k].p = a + (k : Int) := fun k h h1 => runE_at h h1
    have hst : ∀ (k : Nat) (h : k < l.length), k = runE a l → l[k].p ≠ a + (k : Int) := fun k h h1 => by subst h1; exact runE_stop h
    obtain ⟨M, hM⟩ : ∃ M, M = runE a l := ⟨_, rfl⟩
    rw [← hM] at hle hat hst ⊢
    simp (maxSteps := 3000000) only [Try.f40, erRows_len, ↓reduceIte, Bool.not_true, Bool.not_false, ↓reduceIte, Bool.false_eq_true, D.toI, tYs, evL, implies_true, oMin, x_min3, oMin3, x_max, oMax, oCopy, oBin, oUn, oLoadKid, oStoreTree, oField, oExtract, oNil, oSliceQ, oSliceE, x_appendZ, oAppendZ, oSliceEnd, endMode, oLoadRow, takeCells, TS.atRow, TS.ex, treeMode, AV.isOwn, TK.isSl, nilTk, nilsB, oLenQ, oLen, nodupB, treeOf, kidAbs, kidRows, TK.isCell, D.toL, oLoad, oStore, oMake, oIndexAddr, ↓reduceIte, reduceCtorEq, Nat.reduceBEq, Nat.reduceAdd, Nat.reduceMul, Nat.reduceLT, Nat.reduceSub, Nat.reduceLeDiff, Nat.reduceEqDiff, Nat.reduceBneDiff, Int.reduceToNat, decide_eq_true_eq, decide_eq_false_iff_not, beq_iff_eq, Int.toNat_natCast, loopK_normal, loopK_exit, loopK_ret]
    refine e_loop _ _ _ _ _ _ _ _ (fun k : Nat => [.l 2 (erRows l), .v (.int .i64 a), .any, .any, .any, .v (.int .i64 (k : Int))] ++ List.replicate (Try.f40.ntmps - 6) .any) (fun k => []) (fun k => k ≤ M) (fun k => M - k) 0 (fun k => by simp) ?_ fun k hk' => ?_
    · exact ⟨0, [], Nat.zero_le _, ⟨⟨⟨rfl, rfl, rfl⟩, ⟨rfl, rfl, rfl⟩, trivial, trivial, trivial, ⟨rfl, rfl, rfl⟩, fitT_rep _ _ rfl⟩, trivial, by simp [rn, hpAt]⟩, by simp [keepIds]⟩
    have hk1 : k ≤ M := hk'
    have w2 : IntKind.i64.wrap ((k : Int) + 1) = ((k + 1 : Nat) : Int) := by rw [wrap_id] <;> omega
    have w3 : IntKind.i64.wrap (a + (k : Int)) = a + (k : Int) := wrap_id (by omega) (by omega)
    by_cases hk : k < l.length
    · have hrow := erRows_get l k hk
      have hlt : ((k : Int) < (l.length : Int)) = True := eq_true (by omega)
      have h00 : (0 ≤ (k : Int)) = True := eq_true (by omega)
      by_cases hkM : k < M
      · have e1 := hat k hk hkM
        rw [e1] at hrow
        simp (maxSteps := 3000000) only [Try.f40, erRows_len, hrow, hlt, h00, w2, w3, beq_self_eq_true, Bool.not_true, Bool.not_false, ↓reduceIte, Bool.false_eq_true, D.toI, tYs, evL, implies_true, oMin, x_min3, oMin3, x_max, oMax, oCopy, oBin, oUn, oLoadKid, oStoreTree, oField, oExtract, oNil, oSliceQ, oSliceE, x_appendZ, oAppendZ, oSliceEnd, endMode, oLoadRow, takeCells, TS.atRow, TS.ex, treeMode, AV.isOwn, TK.isSl, nilTk, nilsB, oLenQ, oLen, nodupB, treeOf, kidAbs, kidRows, TK.isCell, D.toL, oLoad, oStore, oMake, oIndexAddr, ↓reduceIte, reduceCtorEq, Nat.reduceBEq, Nat.reduceAdd, Nat.reduceMul, Nat.reduceLT, Nat.reduceSub, Nat.reduceLeDiff, Nat.reduceEqDiff, Nat.reduceBneDiff, Int.reduceToNat, decide_eq_true_eq, decide_eq_false_iff_not, beq_iff_eq, Int.toNat_natCast, loopK_normal, loopK_exit, loopK_ret]
        exact ⟨k + 1, [], by omega, by omega, ⟨⟨⟨rfl, rfl, rfl⟩, ⟨rfl, rfl, rfl⟩, trivial, trivial, trivial, ⟨rfl, rfl, rfl⟩, fitT_rep _ _ rfl⟩, trivial, by simp [rn, hpAt]⟩, by simp [keepIds]⟩
      · have e1 := hst k hk (by omega)
        have q1 : (l[k].p == a + (k : Int)) = false := beq_eq_false_iff_ne.2 e1
        have q2 : (l[k].p = a + (k : Int)) = False := eq_false e1
        obtain rfl : k = M := by omega
        simp (maxSteps := 3000000) only [Try.f40, erRows_len, hrow, hlt, h00, w2, w3, q1, q2, Bool.not_true, Bool.not_false, ↓reduceIte, Bool.false_eq_true, D.toI, tYs, evL, implies_true, oMin, x_min3, oMin3, x_max, oMax, oCopy, oBin, oUn, oLoadKid, oStoreTree, oField, oExtract, oNil, oSliceQ, oSliceE, x_appendZ, oAppendZ, oSliceEnd, endMode, oLoadRow, takeCells, TS.atRow, TS.ex, treeMode, AV.isOwn, TK.isSl, nilTk, nilsB, oLenQ, oLen, nodupB, treeOf, kidAbs, kidRows, TK.isCell, D.toL, oLoad, oStore, oMake, oIndexAddr, ↓reduceIte, reduceCtorEq, Nat.reduceBEq, Nat.reduceAdd, Nat.reduceMul, Nat.reduceLT, Nat.reduceSub, Nat.reduceLeDiff, Nat.reduceEqDiff, Nat.reduceBneDiff, Int.reduceToNat, decide_eq_true_eq, decide_eq_false_iff_not, beq_iff_eq, Int.toNat_natCast, loopK_normal, loopK_exit, loopK_ret]
        exact ⟨_, [], rfl, ⟨⟨⟨rfl, rfl, rfl⟩, trivial⟩, trivial, by simp [rn, hpAt]⟩⟩
    · have hlt : ((k : Int) < (l.length : Int)) = False := eq_false (by omega)
      obtain rfl : k = M := by omega
      simp (maxSteps := 3000000) only [Try.f40, erRows_len, hlt, w2, Bool.not_true, Bool.not_false, ↓reduceIte, Bool.false_eq_true, D.toI, tYs, evL, implies_true, oMin, x_min3, oMin3, x_max, oMax, oCopy, oBin, oUn, oLoadKid, oStoreTree, oField, oExtract, oNil, oSliceQ, oSliceE, x_appendZ, oAppendZ, oSliceEnd, endMode, oLoadRow, takeCells, TS.atRow, TS.ex, treeMode, AV.isOwn, TK.isSl, nilTk, nilsB, oLenQ, oLen, nodupB, treeOf, kidAbs, kidRows, TK.isCell, D.toL, oLoad, oStore, oMake, oIndexAddr, ↓reduceIte, reduceCtorEq, Nat.reduceBEq, Nat.reduceAdd, Nat.reduceMul, Nat.reduceLT, Nat.reduceSub, Nat.reduceLeDiff, Nat.reduceEqDiff, Nat.reduceBneDiff, Int.reduceToNat, decide_eq_true_eq, decide_eq_false_iff_not, beq_iff_eq, Int.toNat_natCast, loopK_normal, loopK_exit, loopK_ret]
      exact ⟨_, [], rfl, ⟨⟨⟨rfl, rfl, rfl⟩, trivial⟩, trivial, by simp [rn, hpAt]⟩⟩
  · cases hg
set_option maxHeartbeats 1000000 in
set_option maxRecDepth 100000 in
theorem erBytes_ok : PureOk Try.prog 42 g_erBytes := by
  refine PureOk.of_vc (G := []) (by simp) mixed Try.func42 (by kernel_rfl) rfl ?_
  intro args cnd r bs hg hc
  unfold g_erBytes at hg
  split at hg
  · rename_i sf rf
    cases hg
    obtain ⟨l, rfl, hl⟩ := hc
    rw [ersOf_rows]
    refine ⟨⟨rfl, by simpa [flatB] using rowsOf_flat (l.map Er.b), by simp [AV.ids, AV.ids.idsL]⟩, [.l 2 (erRows l)], rfl, fun w vs h => CvL.ok (.cons (.l _ _ _ (erRows_w l)) .nil) h, ?_⟩
    simp (maxSteps := 3000000) only [Try.f42, erRows_len, rowsOf_len, List.replicate, Int.toNat_natCast, Bool.not_true, Bool.not_false, ↓reduceIte, Bool.false_eq_true, D.toI, D.toL, tYs, evL, implies_true, oMin, x_min3, oMin3, x_max, oMax, oCopy, oBin, oUn, oLoadKid, oStoreTree, oField, oExtract, oNil, oSliceQ, oSliceE, x_appendZ, oAppendZ, oSliceEnd, endMode, oLoadRow, takeCells, TS.atRow, TS.ex, treeMode, AV.isOwn, TK.isSl, nilTk, nilsB, oLenQ, oLen, nodupB, treeOf, kidAbs, kidRows, TK.isCell, D.toL, oLoad, oStore, oMake, oIndexAddr, ↓reduceIte, reduceCtorEq, Nat.reduceBEq, Nat.reduceAdd, Nat.reduceMul, Nat.reduceLT, Nat.reduceSub, Nat.reduceLeDiff, Nat.reduceEqDiff, Nat.reduceBneDiff, Int.reduceToNat, decide_eq_true_eq, decide_eq_false_iff_not, beq_iff_eq, Int.toNat_natCast, loopK_normal, loopK_exit, loopK_ret]
    (repeat (refine And.intro ?_ ?_; focus (((repeat' apply And.intro) <;> first | omega | exact rowsOf_w _ | exact erRows_w _ | exact ⟨_, rfl⟩ | (refine ⟨_, rfl, ?_⟩; first | omega | (simp only [List.length_append, rowsOf_len, erRows_len, List.length_cons, List.length_nil, marks_len, List.length_take, List.length_drop, List.length_set, List.length_map, List.length_range]; omega)) | (simp only [List.length_append, rowsOf_len, erRows_len, List.length_cons, List.length_nil, marks_len, List.length_take, List.length_drop, List.length_set, List.length_map, List.length_range]; omega) | kernel_rfl | (simp; done)); done)))
    refine e_loop _ _ _ _ _ _ _ _ (fun k : Nat => [.l 2 (erRows l), .any, .any, .own 0, .any, .any, .any, .any, .any, .l 2 (erRows l), .v (.int .i64 (l.length : Int)), .v (.int .i64 (k : Int))] ++ List.replicate (Try.f42.ntmps - 12) .any) (fun k => [(0, .sl 5 1 (rowsOfBytes (((l.take k).map Er.b))))]) (fun k => k ≤ l.length) (fun k => l.length - k) 1 (fun k => by simp) ?_ fun k hk' => ?_
    · exact ⟨0, [(0, some _)], Nat.zero_le _, ⟨⟨⟨rfl, rfl, rfl⟩, trivial, trivial, ⟨rfl, rfl, rfl⟩, trivial, trivial, trivial, trivial, trivial, ⟨rfl, rfl, rfl⟩, ⟨rfl, rfl, rfl⟩, ⟨rfl, rfl, rfl⟩, fitT_rep _ _ rfl⟩, ⟨.inl rfl, rfl, rfl, rfl, trivial⟩, by simp [rn, hpAt]⟩, by simp [keepIds]⟩
    have hk1 : k ≤ l.length := hk'
    have w2 : IntKind.i64.wrap ((k : Int) + 1) = ((k + 1 : Nat) : Int) := by rw [wrap_id] <;> omega
    by_cases hk : k < l.length
    · have hrow := erRows_get l k hk
      have hlt : ((k : Int) < (l.length : Int)) = True := eq_true (by omega)
      have h00 : (0 ≤ (k : Int)) = True := eq_true (by omega)
      have hnx : rowsOfBytes ((l.take k).map Er.b) ++ [[.v (.int .u8 (l[k].b.toNat : Int))]] = rowsOfBytes ((l.take (k + 1)).map Er.b) := by
        rw [take_one hk, List.map_append]
        simp [rowsOfBytes]
      simp (maxSteps := 3000000) only [Try.f42, erRows_len, rowsOf_len, hrow, hlt, h00, w2, hnx, Bool.not_true, Bool.not_false, ↓reduceIte, Bool.false_eq_true, D.toI, D.toL, tYs, evL, implies_true, oMin, x_min3, oMin3, x_max, oMax, oCopy, oBin, oUn, oLoadKid, oStoreTree, oField, oExtract, oNil, oSliceQ, oSliceE, x_appendZ, oAppendZ, oSliceEnd, endMode, oLoadRow, takeCells, TS.atRow, TS.ex, treeMode, AV.isOwn, TK.isSl, nilTk, nilsB, oLenQ, oLen, nodupB, treeOf, kidAbs, kidRows, TK.isCell, D.toL, oLoad, oStore, oMake, oIndexAddr, ↓reduceIte, reduceCtorEq, Nat.reduceBEq, Nat.reduceAdd, Nat.reduceMul, Nat.reduceLT, Nat.reduceSub, Nat.reduceLeDiff, Nat.reduceEqDiff, Nat.reduceBneDiff, Int.reduceToNat, decide_eq_true_eq, decide_eq_false_iff_not, beq_iff_eq, Int.toNat_natCast, loopK_normal, loopK_exit, loopK_ret]
      clear hnx
      (repeat (refine And.intro ?_ ?_; focus (((repeat' apply And.intro) <;> first | omega | exact rowsOf_w _ | exact erRows_w _ | exact ⟨_, rfl⟩ | (refine ⟨_, rfl, ?_⟩; first | omega | (simp only [List.length_append, rowsOf_len, erRows_len, List.length_cons, List.length_nil, marks_len, List.length_take, List.length_drop, List.length_set, List.length_map, List.length_range]; omega)) | (simp only [List.length_append, rowsOf_len, erRows_len, List.length_cons, List.length_nil, marks_len, List.length_take, List.length_drop, List.length_set, List.length_map, List.length_range]; omega) | kernel_rfl | (simp; done)); done)))
      exact ⟨k + 1, [(0, some _)], by omega, by omega, ⟨⟨⟨rfl, rfl, rfl⟩, trivial, trivial, ⟨rfl, rfl, rfl⟩, trivial, trivial, trivial, trivial, trivial, ⟨rfl, rfl, rfl⟩, ⟨rfl, rfl, rfl⟩, ⟨rfl, rfl, rfl⟩, fitT_rep _ _ rfl⟩, ⟨.inl rfl, rfl, rfl, rfl, trivial⟩, by simp [rn, hpAt]⟩, by simp [keepIds, rn]⟩
    · have hlt : ((k : Int) < (l.length : Int)) = False := eq_false (by omega)
      have htk : l.take k = l := List.take_of_length_le (by omega)
      rw [htk]
      simp (maxSteps := 3000000) only [Try.f42, erRows_len, rowsOf_len, hlt, w2, Bool.not_true, Bool.not_false, ↓reduceIte, Bool.false_eq_true, D.toI, D.toL, tYs, evL, implies_true, oMin, x_min3, oMin3, x_max, oMax, oCopy, oBin, oUn, oLoadKid, oStoreTree, oField, oExtract, oNil, oSliceQ, oSliceE, x_appendZ, oAppendZ, oSliceEnd, endMode, oLoadRow, takeCells, TS.atRow, TS.ex, treeMode, AV.isOwn, TK.isSl, nilTk, nilsB, oLenQ, oLen, nodupB, treeOf, kidAbs, kidRows, TK.isCell, D.toL, oLoad, oStore, oMake, oIndexAddr, ↓reduceIte, reduceCtorEq, Nat.reduceBEq, Nat.reduceAdd, Nat.reduceMul, Nat.reduceLT, Nat.reduceSub, Nat.reduceLeDiff, Nat.reduceEqDiff, Nat.reduceBneDiff, Int.reduceToNat, decide_eq_true_eq, decide_eq_false_iff_not, beq_iff_eq, Int.toNat_natCast, loopK_normal, loopK_exit, loopK_ret]
      exact ⟨_, [(0, some _)], rfl, ⟨⟨⟨rfl, rfl, rfl⟩, trivial⟩, ⟨.inl rfl, rfl, rfl, rfl, trivial⟩, by simp [rn, hpAt]⟩⟩
  · cases hg
set_option maxHeartbeats 1000000 in
set_option maxRecDepth 100000 in
theorem erCopied_ok : PureOk Try.prog 45 g_erCopied := by
  refine PureOk.of_vc (G := []) (by simp) mixed Try.func45 (by kernel_rfl) rfl ?_
  intro args cnd r bs hg hc
  unfold g_erCopied at hg
  split at hg
  · rename_i sf rf
    cases hg
    obtain ⟨l, rfl, hl⟩ := hc
    rw [ersOf_rows]
    refine ⟨⟨rfl, by intro u hu; simp only [List.mem_cons, List.not_mem_nil, or_false] at hu; rcases hu with rfl; exact erRows_flat _, by simp [AV.ids, AV.ids.idsL]⟩, [.l 2 (erRows l)], rfl, fun w vs h => CvL.ok (.cons (.l _ _ _ (erRows_w l)) .nil) h, ?_⟩
    simp (maxSteps := 3000000) only [Try.f45, erRows_len, List.replicate, Int.toNat_natCast, List.append_eq, List.cons_append, List.nil_append, ↓reduceIte, Bool.false_eq_true, tYs, evL, implies_true, oMin, x_min3, oMin3, x_max, oMax, oCopy, oBin, oUn, oLoadKid, oStoreTree, oField, oExtract, oNil, oSliceQ, oSliceE, x_appendZ, oAppendZ, oSliceEnd, endMode, oLoadRow, takeCells, TS.atRow, TS.ex, treeMode, AV.isOwn, TK.isSl, nilTk, nilsB, oLenQ, oLen, nodupB, treeOf, kidAbs, kidRows, TK.isCell, D.toL, oLoad, oStore, oMake, oIndexAddr, ↓reduceIte, reduceCtorEq, Nat.reduceBEq, Nat.reduceAdd, Nat.reduceMul, Nat.reduceLT, Nat.reduceSub, Nat.reduceLeDiff, Nat.reduceEqDiff, Nat.reduceBneDiff, Int.reduceToNat, decide_eq_true_eq, decide_eq_false_iff_not, beq_iff_eq, Int.toNat_natCast, loopK_normal, loopK_exit, loopK_ret]
    (repeat (refine And.intro ?_ ?_; focus (((repeat' apply And.intro) <;> first | omega | exact rowsOf_w _ | exact erRows_w _ | exact ⟨_, rfl⟩ | (refine ⟨_, rfl, ?_⟩; first | omega | (simp only [List.length_append, rowsOf_len, erRows_len, List.length_cons, List.length_nil, marks_len, List.length_take, List.length_drop, List.length_set, List.length_map, List.length_range]; omega)) | (simp only [List.length_append, rowsOf_len, erRows_len, List.length_cons, List.length_nil, marks_len, List.length_take, List.length_drop, List.length_set, List.length_map, List.length_range]; omega) | kernel_rfl | (simp; done)); done)))
    exact ⟨_, [(0, some _)], rfl, ⟨⟨⟨rfl, rfl, rfl⟩, trivial⟩, ⟨.inl rfl, rfl, rfl, rfl, trivial⟩, by simp [rn, hpAt]⟩⟩
  · cases hg
def iv1 : List (FuncId × Abs) := [(34, pureAbs g_place), (36, pureAbs g_earEnd), (35, pureAbs g_earliesOk)]
theorem iv1_ok : ∀ p ∈ iv1, CallOk Try.prog p.1 p.2 := by
  intro p hp
  simp only [iv1, List.mem_cons, List.not_mem_nil, or_false] at hp
  rcases hp with rfl | rfl | rfl
  · exact isPlace_ok.call
  · exact earEnd_ok.call
  · exact earliesOk_ok.call
set_option maxHeartbeats 1000000 in
set_option maxRecDepth 100000 in
theorem implEarOk_ok : PureOk Try.prog 11 g_earOk := by
  refine PureOk.of_vc (G := iv1) iv1_ok mixed Try.func11 (by kernel_rfl) rfl ?_
  intro args cnd r bs hg hc
  unfold g_earOk at hg
  split at hg
  · rename_i n room sg rg sf rf
    cases hg
    obtain ⟨⟨xs, rfl, hx⟩, l, rfl, hl⟩ := hc
    rw [bytesOf_rows, ersOf_rows]
    refine ⟨⟨rfl, by simp, by simp [AV.ids, AV.ids.idsL]⟩, [.agg [.v (.int .i64 n), .v (.int .i64 room), .l 1 (rowsOfBytes xs), .l 2 (erRows l)]], rfl, fun w vs h => CvL.ok (.cons (.cons (.refl _) (.cons (.refl _) (.cons (.l _ _ _ (rowsOf_w xs)) (.cons (.l _ _ _ (erRows_w l)) .nil)))) .nil) h, ?_⟩
    rw [eaB_el]
    rcases h0 : inZ n 0 1000000 with _ | _
    · simp (maxSteps := 3000000) only [Try.f11, iv1, g_place, g_earEnd, g_earliesOk, erRows_len, rowsOf_len, ersOf_rows, bytesOf_rows, h0, Bool.false_and, Bool.not_true, Bool.not_false, ↓reduceIte, Bool.false_eq_true, tYs, evL, implies_true, oMin, x_min3, oMin3, x_max, oMax, oCopy, oBin, oUn, oLoadKid, oStoreTree, oField, oExtract, oNil, oSliceQ, oSliceE, x_appendZ, oAppendZ, oSliceEnd, endMode, oLoadRow, takeCells, TS.atRow, TS.ex, treeMode, AV.isOwn, TK.isSl, nilTk, nilsB, oLenQ, oLen, nodupB, treeOf, kidAbs, kidRows, TK.isCell, D.toL, oLoad, oStore, oMake, oIndexAddr, ↓reduceIte, reduceCtorEq, Nat.reduceBEq, Nat.reduceAdd, Nat.reduceMul, Nat.reduceLT, Nat.reduceSub, Nat.reduceLeDiff, Nat.reduceEqDiff, Nat.reduceBneDiff, Int.reduceToNat, decide_eq_true_eq, decide_eq_false_iff_not, beq_iff_eq, Int.toNat_natCast]
      exact ⟨_, [], rfl, ⟨⟨⟨rfl, rfl, rfl⟩, trivial⟩, trivial, by simp [rn, hpAt]⟩⟩
    have b0 := inZ_iff.1 h0
    by_cases c1 : room < 1
    · have f1 : (room < 1) = True := eq_true c1
      have h1 : inZ room 1 32 = false := by rw [Bool.eq_false_iff]; intro h; have := inZ_iff.1 h; omega
      rw [h1]
      simp (maxSteps := 3000000) only [Try.f11, iv1, g_place, g_earEnd, g_earliesOk, erRows_len, rowsOf_len, ersOf_rows, bytesOf_rows, h0, f1, Bool.false_and, Bool.true_and, Bool.not_true, Bool.not_false, ↓reduceIte, Bool.false_eq_true, tYs, evL, implies_true, oMin, x_min3, oMin3, x_max, oMax, oCopy, oBin, oUn, oLoadKid, oStoreTree, oField, oExtract, oNil, oSliceQ, oSliceE, x_appendZ, oAppendZ, oSliceEnd, endMode, oLoadRow, takeCells, TS.atRow, TS.ex, treeMode, AV.isOwn, TK.isSl, nilTk, nilsB, oLenQ, oLen, nodupB, treeOf, kidAbs, kidRows, TK.isCell, D.toL, oLoad, oStore, oMake, oIndexAddr, ↓reduceIte, reduceCtorEq, Nat.reduceBEq, Nat.reduceAdd, Nat.reduceMul, Nat.reduceLT, Nat.reduceSub, Nat.reduceLeDiff, Nat.reduceEqDiff, Nat.reduceBneDiff, Int.reduceToNat, decide_eq_true_eq, decide_eq_false_iff_not, beq_iff_eq, Int.toNat_natCast]
      exact ⟨_, [], rfl, ⟨⟨⟨rfl, rfl, rfl⟩, trivial⟩, trivial, by simp [rn, hpAt]⟩⟩
    have f1 : (room < 1) = False := eq_false c1
    by_cases c2 : room > 32
    · have f2 : (room > 32) = True := eq_true c2
      have h1 : inZ room 1 32 = false := by rw [Bool.eq_false_iff]; intro h; have := inZ_iff.1 h; omega
      rw [h1]
      simp (maxSteps := 3000000) only [Try.f11, iv1, g_place, g_earEnd, g_earliesOk, erRows_len, rowsOf_len, ersOf_rows, bytesOf_rows, h0, f1, f2, Bool.false_and, Bool.true_and, Bool.not_true, Bool.not_false, ↓reduceIte, Bool.false_eq_true, tYs, evL, implies_true, oMin, x_min3, oMin3, x_max, oMax, oCopy, oBin, oUn, oLoadKid, oStoreTree, oField, oExtract, oNil, oSliceQ, oSliceE, x_appendZ, oAppendZ, oSliceEnd, endMode, oLoadRow, takeCells, TS.atRow, TS.ex, treeMode, AV.isOwn, TK.isSl, nilTk, nilsB, oLenQ, oLen, nodupB, treeOf, kidAbs, kidRows, TK.isCell, D.toL, oLoad, oStore, oMake, oIndexAddr, ↓reduceIte, reduceCtorEq, Nat.reduceBEq, Nat.reduceAdd, Nat.reduceMul, Nat.reduceLT, Nat.reduceSub, Nat.reduceLeDiff, Nat.reduceEqDiff, Nat.reduceBneDiff, Int.reduceToNat, decide_eq_true_eq, decide_eq_false_iff_not, beq_iff_eq, Int.toNat_natCast]
      exact ⟨_, [], rfl, ⟨⟨⟨rfl, rfl, rfl⟩, trivial⟩, trivial, by simp [rn, hpAt]⟩⟩
    have f2 : (room > 32) = False := eq_false c2
    have h1 : inZ room 1 32 = true := inZ_iff.2 ⟨by omega, by omega⟩
    rw [h1]
    by_cases c3 : (xs.length : Int) > room
    · have f3 : ((xs.length : Int) > room) = True := eq_true c3
      rw [decide_eq_false (show ¬ (xs.length : Int) ≤ room by omega)]
      simp (maxSteps := 3000000) only [Try.f11, iv1, g_place, g_earEnd, g_earliesOk, erRows_len, rowsOf_len, ersOf_rows, bytesOf_rows, h0, f1, f2, f3, Bool.false_and, Bool.true_and, Bool.and_false, Bool.not_true, Bool.not_false, ↓reduceIte, Bool.false_eq_true, tYs, evL, implies_true, oMin, x_min3, oMin3, x_max, oMax, oCopy, oBin, oUn, oLoadKid, oStoreTree, oField, oExtract, oNil, oSliceQ, oSliceE, x_appendZ, oAppendZ, oSliceEnd, endMode, oLoadRow, takeCells, TS.atRow, TS.ex, treeMode, AV.isOwn, TK.isSl, nilTk, nilsB, oLenQ, oLen, nodupB, treeOf, kidAbs, kidRows, TK.isCell, D.toL, oLoad, oStore, oMake, oIndexAddr, ↓reduceIte, reduceCtorEq, Nat.reduceBEq, Nat.reduceAdd, Nat.reduceMul, Nat.reduceLT, Nat.reduceSub, Nat.reduceLeDiff, Nat.reduceEqDiff, Nat.reduceBneDiff, Int.reduceToNat, decide_eq_true_eq, decide_eq_false_iff_not, beq_iff_eq, Int.toNat_natCast]
      exact ⟨_, [], rfl, ⟨⟨⟨rfl, rfl, rfl⟩, trivial⟩, trivial, by simp [rn, hpAt]⟩⟩
    have f3 : ((xs.length : Int) > room) = False := eq_false c3
    rw [decide_eq_true (show (xs.length : Int) ≤ room by omega)]
    have v1 : IntKind.i64.wrap (n + 1) = n + 1 := wrap_id (by omega) (by omega)
    simp (maxSteps := 3000000) only [Try.f11, iv1, g_place, g_earEnd, g_earliesOk, erRows_len, rowsOf_len, ersOf_rows, bytesOf_rows, h0, f1, f2, f3, v1, Bool.true_and, Bool.not_true, Bool.not_false, ↓reduceIte, Bool.false_eq_true, tYs, evL, implies_true, oMin, x_min3, oMin3, x_max, oMax, oCopy, oBin, oUn, oLoadKid, oStoreTree, oField, oExtract, oNil, oSliceQ, oSliceE, x_appendZ, oAppendZ, oSliceEnd, endMode, oLoadRow, takeCells, TS.atRow, TS.ex, treeMode, AV.isOwn, TK.isSl, nilTk, nilsB, oLenQ, oLen, nodupB, treeOf, kidAbs, kidRows, TK.isCell, D.toL, oLoad, oStore, oMake, oIndexAddr, ↓reduceIte, reduceCtorEq, Nat.reduceBEq, Nat.reduceAdd, Nat.reduceMul, Nat.reduceLT, Nat.reduceSub, Nat.reduceLeDiff, Nat.reduceEqDiff, Nat.reduceBneDiff, Int.reduceToNat, decide_eq_true_eq, decide_eq_false_iff_not, beq_iff_eq, Int.toNat_natCast]
    (repeat (refine And.intro ?_ ?_; focus (((repeat' apply And.intro) <;> first | omega | exact rowsOf_w _ | exact erRows_w _ | exact ⟨_, rfl⟩ | (refine ⟨_, rfl, ?_⟩; first | omega | (simp only [List.length_append, rowsOf_len, erRows_len, List.length_cons, List.length_nil, marks_len, List.length_take, List.length_drop, List.length_set, List.length_map, List.length_range]; omega)) | (simp only [List.length_append, rowsOf_len, erRows_len, List.length_cons, List.length_nil, marks_len, List.length_take, List.length_drop, List.length_set, List.length_map, List.length_range]; omega) | kernel_rfl | (simp; done)); done)))
    exact ⟨_, [], rfl, ⟨⟨⟨rfl, rfl, rfl⟩, trivial⟩, trivial, by simp [rn, hpAt]⟩⟩
  · cases hg
def iv2 : List (FuncId × Abs) := [(11, pureAbs g_earOk), (36, pureAbs g_earEnd)]
theorem iv2_ok : ∀ p ∈ iv2, CallOk Try.prog p.1 p.2 := by
  intro p hp
  simp only [iv2, List.mem_cons, List.not_mem_nil, or_false] at hp
  rcases hp with rfl | rfl
  · exact implEarOk_ok.call
  · exact earEnd_ok.call
set_option maxRecDepth 100000 in
theorem implEarFree_ok : PureOk Try.prog 14 g_earFree := by
  refine PureOk.of_vc (G := iv2) iv2_ok mixed Try.func14 (by kernel_rfl) rfl ?_
  intro args cnd r bs hg hc
  unfold g_earFree at hg
  split at hg
  · rename_i n room sg rg sf rf
    cases hg
    obtain ⟨⟨xs, rfl, hx⟩, l, rfl, hl⟩ := hc
    rw [bytesOf_rows, ersOf_rows]
    refine ⟨⟨rfl, by simp, by simp [AV.ids, AV.ids.idsL]⟩, [.agg [.v (.int .i64 n), .v (.int .i64 room), .l 1 (rowsOfBytes xs), .l 2 (erRows l)]], rfl, fun w vs h => CvL.ok (.cons (.cons (.refl _) (.cons (.refl _) (.cons (.l _ _ _ (rowsOf_w xs)) (.cons (.l _ _ _ (erRows_w l)) .nil)))) .nil) h, ?_⟩
    rcases h0 : eaB ⟨n, room, xs, l⟩ with _ | _
    · rw [if_neg (by decide)]
      simp (maxSteps := 3000000) only [Try.f14, iv2, g_earOk, g_earEnd, erRows_len, rowsOf_len, ersOf_rows, bytesOf_rows, h0, List.append_eq, List.cons_append, List.nil_append, Bool.not_true, Bool.not_false, ↓reduceIte, Bool.false_eq_true, tYs, evL, implies_true, oMin, x_min3, oMin3, x_max, oMax, oCopy, oBin, oUn, oLoadKid, oStoreTree, oField, oExtract, oNil, oSliceQ, oSliceE, x_appendZ, oAppendZ, oSliceEnd, endMode, oLoadRow, takeCells, TS.atRow, TS.ex, treeMode, AV.isOwn, TK.isSl, nilTk, nilsB, oLenQ, oLen, nodupB, treeOf, kidAbs, kidRows, TK.isCell, D.toL, oLoad, oStore, oMake, oIndexAddr, ↓reduceIte, reduceCtorEq, Nat.reduceBEq, Nat.reduceAdd, Nat.reduceMul, Nat.reduceLT, Nat.reduceSub, Nat.reduceLeDiff, Nat.reduceEqDiff, Nat.reduceBneDiff, Int.reduceToNat, decide_eq_true_eq, decide_eq_false_iff_not, beq_iff_eq, Int.toNat_natCast, loopK_normal, loopK_exit, loopK_ret]
      (repeat (refine And.intro ?_ ?_; focus (((repeat' apply And.intro) <;> first | omega | exact rowsOf_w _ | exact erRows_w _ | exact ⟨_, rfl⟩ | (refine ⟨_, rfl, ?_⟩; first | omega | (simp only [List.length_append, rowsOf_len, erRows_len, List.length_cons, List.length_nil, marks_len, List.length_take, List.length_drop, List.length_set, List.length_map, List.length_range]; omega)) | (simp only [List.length_append, rowsOf_len, erRows_len, List.length_cons, List.length_nil, marks_len, List.length_take, List.length_drop, List.length_set, List.length_map, List.length_range]; omega) | kernel_rfl | (simp; done)); done)))
      exact ⟨_, [], rfl, ⟨⟨⟨rfl, rfl, rfl⟩, trivial⟩, trivial, by simp [rn, hpAt]⟩⟩
    · rw [if_pos rfl]
      obtain ⟨b0, b1, b2, _⟩ := eaB_iff.1 h0
      dsimp only at b0 b1 b2
      have v1 : IntKind.i64.wrap (n + room - (xs.length : Int) - n) = eaF ⟨n, room, xs, l⟩ := by
        rw [wrap_id (by omega) (by omega)]
        show _ = room - (xs.length : Int)
        omega
      simp (maxSteps := 3000000) only [Try.f14, iv2, g_earOk, g_earEnd, erRows_len, rowsOf_len, ersOf_rows, bytesOf_rows, h0, v1, List.append_eq, List.cons_append, List.nil_append, Bool.not_true, Bool.not_false, ↓reduceIte, Bool.false_eq_true, tYs, evL, implies_true, oMin, x_min3, oMin3, x_max, oMax, oCopy, oBin, oUn, oLoadKid, oStoreTree, oField, oExtract, oNil, oSliceQ, oSliceE, x_appendZ, oAppendZ, oSliceEnd, endMode, oLoadRow, takeCells, TS.atRow, TS.ex, treeMode, AV.isOwn, TK.isSl, nilTk, nilsB, oLenQ, oLen, nodupB, treeOf, kidAbs, kidRows, TK.isCell, D.toL, oLoad, oStore, oMake, oIndexAddr, ↓reduceIte, reduceCtorEq, Nat.reduceBEq, Nat.reduceAdd, Nat.reduceMul, Nat.reduceLT, Nat.reduceSub, Nat.reduceLeDiff, Nat.reduceEqDiff, Nat.reduceBneDiff, Int.reduceToNat, decide_eq_true_eq, decide_eq_false_iff_not, beq_iff_eq, Int.toNat_natCast, loopK_normal, loopK_exit, loopK_ret]
      (repeat (refine And.intro ?_ ?_; focus (((repeat' apply And.intro) <;> first | omega | exact rowsOf_w _ | exact erRows_w _ | exact ⟨_, rfl⟩ | (refine ⟨_, rfl, ?_⟩; first | omega | (simp only [List.length_append, rowsOf_len, erRows_len, List.length_cons, List.length_nil, marks_len, List.length_take, List.length_drop, List.length_set, List.length_map, List.length_range]; omega)) | (simp only [List.length_append, rowsOf_len, erRows_len, List.length_cons, List.length_nil, marks_len, List.length_take, List.length_drop, List.length_set, List.length_map, List.length_range]; omega) | kernel_rfl | (simp; done)); done)))
      exact ⟨_, [], rfl, ⟨⟨⟨rfl, rfl, rfl⟩, trivial⟩, trivial, by simp [rn, hpAt]⟩⟩
  · cases hg
def iv3 : List (FuncId × Abs) := [(14, pureAbs g_earFree), (36, pureAbs g_earEnd)]
theorem iv3_ok : ∀ p ∈ iv3, CallOk Try.prog p.1 p.2 := by
  intro p hp
  simp only [iv3, List.mem_cons, List.not_mem_nil, or_false] at hp
  rcases hp with rfl | rfl
  · exact implEarFree_ok.call
  · exact earEnd_ok.call
set_option maxHeartbeats 8000000 in
set_option maxRecDepth 100000 in
theorem earTaken_ok : PureOk Try.prog 39 g_earTaken := by
  refine PureOk.of_vc (G := iv3) iv3_ok mixed Try.func39 (by kernel_rfl) rfl ?_
  intro args cnd r bs hg hc
  unfold g_earTaken at hg
  split at hg
  · rename_i n room sg rg sf rf a sd rd
    cases hg
    obtain ⟨⟨⟨⟨⟨xs, rfl, hx⟩, l, rfl, hl⟩, ds, rfl, hd⟩, he⟩, ha⟩ := hc
    rw [bytesOf_rows, ersOf_rows] at he
    rw [bytesOf_rows, bytesOf_rows, ersOf_rows]
    refine ⟨⟨rfl, by intro u hu; simp only [List.mem_cons, List.not_mem_nil, or_false] at hu; rcases hu with rfl; exact erRows_flat _, by simp [AV.ids, AV.ids.idsL]⟩, [.agg [.v (.int .i64 n), .v (.int .i64 room), .l 1 (rowsOfBytes xs), .l 2 (erRows l)], .v (.int .i64 a), .l 1 (rowsOfBytes ds)], rfl, fun w vs h => CvL.ok (.cons (.cons (.refl _) (.cons (.refl _) (.cons (.l _ _ _ (rowsOf_w xs)) (.cons (.l _ _ _ (erRows_w l)) .nil)))) (.cons (.refl _) (.cons (.l _ _ _ (rowsOf_w ds)) .nil))) h, ?_⟩
    have b1 := inZ_iff.1 ha
    have hcnt := ea_count he
    have hTk := tk_hr he a ds
    obtain ⟨b2, b3, b4, b5, b6⟩ := eaB_iff.1 he
    dsimp only at hcnt b2 b3 b4 b5 b6
    have hinv := fun k => (tkC_inv (e := ⟨n, room, xs, l⟩) b6 (fun x hx => by have := b5 x hx; show n ≤ x.p; omega) k).1
    dsimp only at hinv
    have hlen := tkL12_len ⟨n, room, xs, l⟩ a ds
    have hF : eaF ⟨n, room, xs, l⟩ = room - (xs.length : Int) := rfl
    obtain ⟨FN, hFN⟩ : ∃ FN, FN = (eaF ⟨n, room, xs, l⟩).toNat := ⟨_, rfl⟩
    rw [← hFN] at hTk
    have hFF : room - (xs.length : Int) = (FN : Int) := by omega
    rw [← hTk]
    have hif : (if True then eaF ⟨n, room, xs, l⟩ else 0) = (FN : Int) := by rw [if_pos trivial]; omega
    have heF : eaF ⟨n, room, xs, l⟩ = (FN : Int) := by omega
    have hend : n + room - (xs.length : Int) = n + (FN : Int) := by omega
    simp (maxSteps := 3000000) only [Try.f39, iv3, g_earFree, g_earEnd, erRows_len, rowsOf_len, ersOf_rows, bytesOf_rows, he, heF, hend, List.replicate, List.append_eq, List.cons_append, List.nil_append, Bool.not_true, Bool.not_false, ↓reduceIte, Bool.false_eq_true, toI12, tYs, evL, implies_true, oMin, x_min3, oMin3, x_max, oMax, oCopy, oBin, oUn, oLoadKid, oStoreTree, oField, oExtract, oNil, oSliceQ, oSliceE, x_appendZ, oAppendZ, oSliceEnd, endMode, oLoadRow, takeCells, TS.atRow, TS.ex, treeMode, AV.isOwn, TK.isSl, nilTk, nilsB, oLenQ, oLen, nodupB, treeOf, kidAbs, kidRows, TK.isCell, D.toL, oLoad, oStore, oMake, oIndexAddr, ↓reduceIte, reduceCtorEq, Nat.reduceBEq, Nat.reduceAdd, Nat.reduceMul, Nat.reduceLT, Nat.reduceSub, Nat.reduceLeDiff, Nat.reduceEqDiff, Nat.reduceBneDiff, Int.reduceToNat, decide_eq_true_eq, decide_eq_false_iff_not, beq_iff_eq, Int.toNat_natCast, loopK_normal, loopK_exit, loopK_ret]
    (repeat (refine And.intro ?_ ?_; focus (((repeat' apply And.intro) <;> first | omega | exact rowsOf_w _ | exact erRows_w _ | exact ⟨_, rfl⟩ | (refine ⟨_, rfl, ?_⟩; first | omega | (simp only [List.length_append, rowsOf_len, erRows_len, List.length_cons, List.length_nil, marks_len, List.length_take, List.length_drop, List.length_set, List.length_map, List.length_range]; omega)) | (simp only [List.length_append, rowsOf_len, erRows_len, List.length_cons, List.length_nil, marks_len, List.length_take, List.length_drop, List.length_set, List.length_map, List.length_range]; omega) | kernel_rfl | (simp; done)); done)))
    refine e_loop _ _ _ _ _ _ _ _ (fun k : Nat => [.any, .v (.int .i64 a), .l 1 (rowsOfBytes ds), .ptr 0 0, .any, .any, .any, .own 1, .v (.int .i64 (tkC ⟨n, room, xs, l⟩ k : Int)), .v (.int .i64 (n + (k : Int)))] ++ List.replicate (Try.f39.ntmps - 10) .any) (fun k => [(0, .var 30 [.v (.int .i64 n), .v (.int .i64 room), .l 1 (rowsOfBytes xs), .l 2 (erRows l)]), (1, .sl 51 2 (erRows (tkL12 ⟨n, room, xs, l⟩ a ds k)))]) (fun k => k ≤ FN) (fun k => FN - k) 2 (fun k => by simp) ?_ fun k hk' => ?_
    · exact ⟨0, [(0, some 0), (1, some _)], Nat.zero_le _, ⟨⟨trivial, ⟨rfl, rfl, rfl⟩, ⟨rfl, rfl, rfl⟩, ⟨rfl, rfl, rfl⟩, trivial, trivial, trivial, ⟨rfl, rfl, rfl⟩, ⟨rfl, rfl, rfl⟩, ⟨congrArg (fun z => AV.v (Value.int .i64 z)) (by omega), rfl, rfl⟩, fitT_rep _ _ rfl⟩, ⟨.inl rfl, rfl, rfl, rfl, .inl rfl, rfl, rfl, rfl, trivial⟩, by simp [rn, hpAt]⟩, by simp [keepIds]⟩
    have hk1 : k ≤ FN := hk'
    have hlk := hlen k
    have hck := hinv k
    have w2 : IntKind.i64.wrap (n + (k : Int) + 1) = n + ((k + 1 : Nat) : Int) := by rw [wrap_id] <;> omega
    by_cases hk : k < FN
    · have hgo : (n + (k : Int) < n + (FN : Int)) = True := eq_true (by omega)
      obtain ⟨c, hc⟩ : ∃ c, c = tkC ⟨n, room, xs, l⟩ k := ⟨_, rfl⟩
      rw [← hc] at hck
      have w1 : IntKind.i64.wrap ((c : Int) + 1) = ((c + 1 : Nat) : Int) := by rw [wrap_id] <;> omega
      have h00 : (0 ≤ (c : Int)) = True := eq_true (by omega)
      by_cases hcl : c < l.length
      · have hlt : ((c : Int) < (l.length : Int)) = True := eq_true (by omega)
        have hrow := erRows_get l c hcl
        have eg : l.getD c er0 = l[c] := by rw [List.getD_eq_getElem?_getD, List.getElem?_eq_getElem hcl]; rfl
        by_cases hp : l[c].p = n + (k : Int)
        · have hhit : tkC ⟨n, room, xs, l⟩ k < (⟨n, room, xs, l⟩ : Ea).fr.length ∧ ((⟨n, room, xs, l⟩ : Ea).fr.getD (tkC ⟨n, room, xs, l⟩ k) er0).p = (⟨n, room, xs, l⟩ : Ea).n + (k : Int) := by
            rw [← hc]
            exact ⟨hcl, by show (l.getD c er0).p = _; rw [eg]; exact hp⟩
          have hC : tkC ⟨n, room, xs, l⟩ (k + 1) = c + 1 := by rw [tkC, if_pos hhit, ← hc]
          have hT : tkL12 ⟨n, room, xs, l⟩ a ds (k + 1) = (tkL12 ⟨n, room, xs, l⟩ a ds k) ++ [l[c]] := by
            rw [tkL12, if_pos hhit, ← hc]
            show _ ++ [l.getD c er0] = _
            rw [eg]
          have hnx : erRows (tkL12 ⟨n, room, xs, l⟩ a ds k) ++ [[.v (.int .i64 (n + (k : Int))), .v (.int .u8 (l[c].b.toNat : Int))]] = erRows (tkL12 ⟨n, room, xs, l⟩ a ds (k + 1)) := by rw [hT, ← erRows_app, ← hp]; rfl
          rw [hp] at hrow
          rw [← hc]
          simp (maxSteps := 3000000) only [Try.f39, iv3, g_earFree, g_earEnd, erRows_len, rowsOf_len, ersOf_rows, bytesOf_rows, hgo, hlt, h00, hrow, beq_self_eq_true, w1, w2, hend, hnx, List.append_eq, List.cons_append, List.nil_append, Bool.not_true, Bool.not_false, ↓reduceIte, Bool.false_eq_true, toI12, tYs, evL, implies_true, oMin, x_min3, oMin3, x_max, oMax, oCopy, oBin, oUn, oLoadKid, oStoreTree, oField, oExtract, oNil, oSliceQ, oSliceE, x_appendZ, oAppendZ, oSliceEnd, endMode, oLoadRow, takeCells, TS.atRow, TS.ex, treeMode, AV.isOwn, TK.isSl, nilTk, nilsB, oLenQ, oLen, nodupB, treeOf, kidAbs, kidRows, TK.isCell, D.toL, oLoad, oStore, oMake, oIndexAddr, ↓reduceIte, reduceCtorEq, Nat.reduceBEq, Nat.reduceAdd, Nat.reduceMul, Nat.reduceLT, Nat.reduceSub, Nat.reduceLeDiff, Nat.reduceEqDiff, Nat.reduceBneDiff, Int.reduceToNat, decide_eq_true_eq, decide_eq_false_iff_not, beq_iff_eq, Int.toNat_natCast, loopK_normal, loopK_exit, loopK_ret]
          clear hnx
          (repeat (refine And.intro ?_ ?_; focus (((repeat' apply And.intro) <;> first | omega | exact rowsOf_w _ | exact erRows_w _ | exact ⟨_, rfl⟩ | (refine ⟨_, rfl, ?_⟩; first | omega | (simp only [List.length_append, rowsOf_len, erRows_len, List.length_cons, List.length_nil, marks_len, List.length_take, List.length_drop, List.length_set, List.length_map, List.length_range]; omega)) | (simp only [List.length_append, rowsOf_len, erRows_len, List.length_cons, List.length_nil, marks_len, List.length_take, List.length_drop, List.length_set, List.length_map, List.length_range]; omega) | kernel_rfl | (simp; done)); done)))
          exact ⟨k + 1, [(0, some 0), (1, some _)], by omega, by omega, ⟨⟨trivial, ⟨rfl, rfl, rfl⟩, ⟨rfl, rfl, rfl⟩, ⟨rfl, rfl, rfl⟩, trivial, trivial, trivial, ⟨rfl, rfl, rfl⟩, ⟨congrArg (fun z : Nat => AV.v (Value.int .i64 (z : Int))) (hC.symm), rfl, rfl⟩, ⟨rfl, rfl, rfl⟩, fitT_rep _ _ rfl⟩, ⟨.inl rfl, rfl, rfl, rfl, .inl rfl, rfl, rfl, rfl, trivial⟩, by simp [rn, hpAt]⟩, by simp [keepIds, rn]⟩
        · have hmiss : ¬ (tkC ⟨n, room, xs, l⟩ k < (⟨n, room, xs, l⟩ : Ea).fr.length ∧ ((⟨n, room, xs, l⟩ : Ea).fr.getD (tkC ⟨n, room, xs, l⟩ k) er0).p = (⟨n, room, xs, l⟩ : Ea).n + (k : Int)) := by
            rw [← hc]
            intro h
            have h2 := h.2
            rw [show (⟨n, room, xs, l⟩ : Ea).fr.getD c er0 = l[c] from eg] at h2
            exact hp h2
          have hC : tkC ⟨n, room, xs, l⟩ (k + 1) = c := by rw [tkC, if_neg hmiss, ← hc]
          have q1 : (l[c].p == n + (k : Int)) = false := beq_eq_false_iff_ne.2 hp
          have q2 : (l[c].p = n + (k : Int)) = False := eq_false hp
          rw [← hc]
          by_cases c1 : n + (k : Int) ≥ a
          · have f1 : (n + (k : Int) ≥ a) = True := eq_true c1
            obtain ⟨j, hj⟩ : ∃ j : Nat, n + (k : Int) - a = (j : Int) := ⟨(n + (k : Int) - a).toNat, by omega⟩
            have v1 : IntKind.i64.wrap (n + (k : Int) - a) = (j : Int) := by rw [wrap_id] <;> omega
            have g0 : (0 ≤ (j : Int)) = True := eq_true (by omega)
            by_cases c2 : j < ds.length
            · have f2 : ((j : Int) < (ds.length : Int)) = True := eq_true (by omega)
              have hT : tkL12 ⟨n, room, xs, l⟩ a ds (k + 1) = (tkL12 ⟨n, room, xs, l⟩ a ds k) ++ [⟨n + (k : Int), ds.getD j 0⟩] := by
                rw [tkL12, if_neg hmiss]
                show (if a ≤ n + (k : Int) ∧ n + (k : Int) - a < (ds.length : Int) then _ else _) = _
                rw [if_pos ⟨c1, by omega⟩]
                show _ ++ [(⟨n + (k : Int), ds.getD (n + (k : Int) - a).toNat 0⟩ : Er)] = _
                rw [show (n + (k : Int) - a).toNat = j by omega]
              have hnx : erRows (tkL12 ⟨n, room, xs, l⟩ a ds k) ++ [[.v (.int .i64 (n + (k : Int))), .v (.int .u8 ((ds.getD j 0).toNat : Int))]] = erRows (tkL12 ⟨n, room, xs, l⟩ a ds (k + 1)) := by rw [hT, ← erRows_app]; rfl
              simp (maxSteps := 3000000) only [Try.f39, iv3, g_earFree, g_earEnd, erRows_len, rowsOf_len, ersOf_rows, bytesOf_rows, hgo, hlt, h00, hrow, q1, q2, hend, f1, f2, v1, g0, w1, w2, hnx, row_toI, row_nil, row_head, List.append_eq, List.cons_append, List.nil_append, Bool.not_true, Bool.not_false, ↓reduceIte, Bool.false_eq_true, toI12, tYs, evL, implies_true, oMin, x_min3, oMin3, x_max, oMax, oCopy, oBin, oUn, oLoadKid, oStoreTree, oField, oExtract, oNil, oSliceQ, oSliceE, x_appendZ, oAppendZ, oSliceEnd, endMode, oLoadRow, takeCells, TS.atRow, TS.ex, treeMode, AV.isOwn, TK.isSl, nilTk, nilsB, oLenQ, oLen, nodupB, treeOf, kidAbs, kidRows, TK.isCell, D.toL, oLoad, oStore, oMake, oIndexAddr, ↓reduceIte, reduceCtorEq, Nat.reduceBEq, Nat.reduceAdd, Nat.reduceMul, Nat.reduceLT, Nat.reduceSub, Nat.reduceLeDiff, Nat.reduceEqDiff, Nat.reduceBneDiff, Int.reduceToNat, decide_eq_true_eq, decide_eq_false_iff_not, beq_iff_eq, Int.toNat_natCast, loopK_normal, loopK_exit, loopK_ret]
              clear hnx
              (repeat (refine And.intro ?_ ?_; focus (((repeat' apply And.intro) <;> first | omega | exact rowsOf_w _ | exact erRows_w _ | exact ⟨_, rfl⟩ | (refine ⟨_, rfl, ?_⟩; first | omega | (simp only [List.length_append, rowsOf_len, erRows_len, List.length_cons, List.length_nil, marks_len, List.length_take, List.length_drop, List.length_set, List.length_map, List.length_range]; omega)) | (simp only [List.length_append, rowsOf_len, erRows_len, List.length_cons, List.length_nil, marks_len, List.length_take, List.length_drop, List.length_set, List.length_map, List.length_range]; omega) | kernel_rfl | (simp; done)); done)))
              exact ⟨k + 1, [(0, some 0), (1, some _)], by omega, by omega, ⟨⟨trivial, ⟨rfl, rfl, rfl⟩, ⟨rfl, rfl, rfl⟩, ⟨rfl, rfl, rfl⟩, trivial, trivial, trivial, ⟨rfl, rfl, rfl⟩, ⟨congrArg (fun z : Nat => AV.v (Value.int .i64 (z : Int))) (hC.symm), rfl, rfl⟩, ⟨rfl, rfl, rfl⟩, fitT_rep _ _ rfl⟩, ⟨.inl rfl, rfl, rfl, rfl, .inl rfl, rfl, rfl, rfl, trivial⟩, by simp [rn, hpAt]⟩, by simp [keepIds, rn]⟩
            · have f2 : ((j : Int) < (ds.length : Int)) = False := eq_false (by omega)
              have hT : (tkL12 ⟨n, room, xs, l⟩ a ds k) = tkL12 ⟨n, room, xs, l⟩ a ds (k + 1) := by
                rw [tkL12, if_neg hmiss]
                show _ = (if a ≤ n + (k : Int) ∧ n + (k : Int) - a < (ds.length : Int) then _ else _)
                rw [if_neg (by omega)]
              simp (maxSteps := 3000000) only [Try.f39, iv3, g_earFree, g_earEnd, erRows_len, rowsOf_len, ersOf_rows, bytesOf_rows, hgo, hlt, h00, hrow, q1, q2, hend, f1, f2, v1, g0, w1, w2, List.append_eq, List.cons_append, List.nil_append, Bool.not_true, Bool.not_false, ↓reduceIte, Bool.false_eq_true, toI12, tYs, evL, implies_true, oMin, x_min3, oMin3, x_max, oMax, oCopy, oBin, oUn, oLoadKid, oStoreTree, oField, oExtract, oNil, oSliceQ, oSliceE, x_appendZ, oAppendZ, oSliceEnd, endMode, oLoadRow, takeCells, TS.atRow, TS.ex, treeMode, AV.isOwn, TK.isSl, nilTk, nilsB, oLenQ, oLen, nodupB, treeOf, kidAbs, kidRows, TK.isCell, D.toL, oLoad, oStore, oMake, oIndexAddr, ↓reduceIte, reduceCtorEq, Nat.reduceBEq, Nat.reduceAdd, Nat.reduceMul, Nat.reduceLT, Nat.reduceSub, Nat.reduceLeDiff, Nat.reduceEqDiff, Nat.reduceBneDiff, Int.reduceToNat, decide_eq_true_eq, decide_eq_false_iff_not, beq_iff_eq, Int.toNat_natCast, loopK_normal, loopK_exit, loopK_ret]
              (repeat (refine And.intro ?_ ?_; focus (((repeat' apply And.intro) <;> first | omega | exact rowsOf_w _ | exact erRows_w _ | exact ⟨_, rfl⟩ | (refine ⟨_, rfl, ?_⟩; first | omega | (simp only [List.length_append, rowsOf_len, erRows_len, List.length_cons, List.length_nil, marks_len, List.length_take, List.length_drop, List.length_set, List.length_map, List.length_range]; omega)) | (simp only [List.length_append, rowsOf_len, erRows_len, List.length_cons, List.length_nil, marks_len, List.length_take, List.length_drop, List.length_set, List.length_map, List.length_range]; omega) | kernel_rfl | (simp; done)); done)))
              exact ⟨k + 1, [(0, some 0), (1, some _)], by omega, by omega, ⟨⟨trivial, ⟨rfl, rfl, rfl⟩, ⟨rfl, rfl, rfl⟩, ⟨rfl, rfl, rfl⟩, trivial, trivial, trivial, ⟨rfl, rfl, rfl⟩, ⟨congrArg (fun z : Nat => AV.v (Value.int .i64 (z : Int))) (hC.symm), rfl, rfl⟩, ⟨rfl, rfl, rfl⟩, fitT_rep _ _ rfl⟩, ⟨.inl rfl, rfl, rfl, rfl, .inl (congrArg (fun z => Blk.sl 51 2 (erRows z)) (hT)), rfl, rfl, rfl, trivial⟩, by simp [rn, hpAt]⟩, by simp [keepIds, rn]⟩
          · have f1 : (n + (k : Int) ≥ a) = False := eq_false c1
            have hT : (tkL12 ⟨n, room, xs, l⟩ a ds k) = tkL12 ⟨n, room, xs, l⟩ a ds (k + 1) := by
              rw [tkL12, if_neg hmiss]
              show _ = (if a ≤ n + (k : Int) ∧ n + (k : Int) - a < (ds.length : Int) then _ else _)
              rw [if_neg (by omega)]
            simp (maxSteps := 3000000) only [Try.f39, iv3, g_earFree, g_earEnd, erRows_len, rowsOf_len, ersOf_rows, bytesOf_rows, hgo, hlt, h00, hrow, q1, q2, hend, f1, w1, w2, List.append_eq, List.cons_append, List.nil_append, Bool.not_true, Bool.not_false, ↓reduceIte, Bool.false_eq_true, toI12, tYs, evL, implies_true, oMin, x_min3, oMin3, x_max, oMax, oCopy, oBin, oUn, oLoadKid, oStoreTree, oField, oExtract, oNil, oSliceQ, oSliceE, x_appendZ, oAppendZ, oSliceEnd, endMode, oLoadRow, takeCells, TS.atRow, TS.ex, treeMode, AV.isOwn, TK.isSl, nilTk, nilsB, oLenQ, oLen, nodupB, treeOf, kidAbs, kidRows, TK.isCell, D.toL, oLoad, oStore, oMake, oIndexAddr, ↓reduceIte, reduceCtorEq, Nat.reduceBEq, Nat.reduceAdd, Nat.reduceMul, Nat.reduceLT, Nat.reduceSub, Nat.reduceLeDiff, Nat.reduceEqDiff, Nat.reduceBneDiff, Int.reduceToNat, decide_eq_true_eq, decide_eq_false_iff_not, beq_iff_eq, Int.toNat_natCast, loopK_normal, loopK_exit, loopK_ret]
            (repeat (refine And.intro ?_ ?_; focus (((repeat' apply And.intro) <;> first | omega | exact rowsOf_w _ | exact erRows_w _ | exact ⟨_, rfl⟩ | (refine ⟨_, rfl, ?_⟩; first | omega | (simp only [List.length_append, rowsOf_len, erRows_len, List.length_cons, List.length_nil, marks_len, List.length_take, List.length_drop, List.length_set, List.length_map, List.length_range]; omega)) | (simp only [List.length_append, rowsOf_len, erRows_len, List.length_cons, List.length_nil, marks_len, List.length_take, List.length_drop, List.length_set, List.length_map, List.length_range]; omega) | kernel_rfl | (simp; done)); done)))
            exact ⟨k + 1, [(0, some 0), (1, some _)], by omega, by omega, ⟨⟨trivial, ⟨rfl, rfl, rfl⟩, ⟨rfl, rfl, rfl⟩, ⟨rfl, rfl, rfl⟩, trivial, trivial, trivial, ⟨rfl, rfl, rfl⟩, ⟨congrArg (fun z : Nat => AV.v (Value.int .i64 (z : Int))) (hC.symm), rfl, rfl⟩, ⟨rfl, rfl, rfl⟩, fitT_rep _ _ rfl⟩, ⟨.inl rfl, rfl, rfl, rfl, .inl (congrArg (fun z => Blk.sl 51 2 (erRows z)) (hT)), rfl, rfl, rfl, trivial⟩, by simp [rn, hpAt]⟩, by simp [keepIds, rn]⟩
      · have hlt : ((c : Int) < (l.length : Int)) = False := eq_false (by omega)
        have hmiss : ¬ (tkC ⟨n, room, xs, l⟩ k < (⟨n, room, xs, l⟩ : Ea).fr.length ∧ ((⟨n, room, xs, l⟩ : Ea).fr.getD (tkC ⟨n, room, xs, l⟩ k) er0).p = (⟨n, room, xs, l⟩ : Ea).n + (k : Int)) := by
          rw [← hc]
          intro h
          exact hcl h.1
        have hC : tkC ⟨n, room, xs, l⟩ (k + 1) = c := by rw [tkC, if_neg hmiss, ← hc]
        rw [← hc]
        by_cases c1 : n + (k : Int) ≥ a
        · have f1 : (n + (k : Int) ≥ a) = True := eq_true c1
          obtain ⟨j, hj⟩ : ∃ j : Nat, n + (k : Int) - a = (j : Int) := ⟨(n + (k : Int) - a).toNat, by omega⟩
          have v1 : IntKind.i64.wrap (n + (k : Int) - a) = (j : Int) := by rw [wrap_id] <;> omega
          have g0 : (0 ≤ (j : Int)) = True := eq_true (by omega)
          by_cases c2 : j < ds.length
          · have f2 : ((j : Int) < (ds.length : Int)) = True := eq_true (by omega)
            have hT : tkL12 ⟨n, room, xs, l⟩ a ds (k + 1) = (tkL12 ⟨n, room, xs, l⟩ a ds k) ++ [⟨n + (k : Int), ds.getD j 0⟩] := by
              rw [tkL12, if_neg hmiss]
              show (if a ≤ n + (k : Int) ∧ n + (k : Int) - a < (ds.length : Int) then _ else _) = _
              rw [if_pos ⟨c1, by omega⟩]
              show _ ++ [(⟨n + (k : Int), ds.getD (n + (k : Int) - a).toNat 0⟩ : Er)] = _
              rw [show (n + (k : Int) - a).toNat = j by omega]
            have hnx : erRows (tkL12 ⟨n, room, xs, l⟩ a ds k) ++ [[.v (.int .i64 (n + (k : Int))), .v (.int .u8 ((ds.getD j 0).toNat : Int))]] = erRows (tkL12 ⟨n, room, xs, l⟩ a ds (k + 1)) := by rw [hT, ← erRows_app]; rfl
            simp (maxSteps := 3000000) only [Try.f39, iv3, g_earFree, g_earEnd, erRows_len, rowsOf_len, ersOf_rows, bytesOf_rows, hgo, hlt, h00, hend, f1, f2, v1, g0, w1, w2, hnx, row_toI, row_nil, row_head, List.append_eq, List.cons_append, List.nil_append, Bool.not_true, Bool.not_false, ↓reduceIte, Bool.false_eq_true, toI12, tYs, evL, implies_true, oMin, x_min3, oMin3, x_max, oMax, oCopy, oBin, oUn, oLoadKid, oStoreTree, oField, oExtract, oNil, oSliceQ, oSliceE, x_appendZ, oAppendZ, oSliceEnd, endMode, oLoadRow, takeCells, TS.atRow, TS.ex, treeMode, AV.isOwn, TK.isSl, nilTk, nilsB, oLenQ, oLen, nodupB, treeOf, kidAbs, kidRows, TK.isCell, D.toL, oLoad, oStore, oMake, oIndexAddr, ↓reduceIte, reduceCtorEq, Nat.reduceBEq, Nat.reduceAdd, Nat.reduceMul, Nat.reduceLT, Nat.reduceSub, Nat.reduceLeDiff, Nat.reduceEqDiff, Nat.reduceBneDiff, Int.reduceToNat, decide_eq_true_eq, decide_eq_false_iff_not, beq_iff_eq, Int.toNat_natCast, loopK_normal, loopK_exit, loopK_ret]
            clear hnx
            (repeat (refine And.intro ?_ ?_; focus (((repeat' apply And.intro) <;> first | omega | exact rowsOf_w _ | exact erRows_w _ | exact ⟨_, rfl⟩ | (refine ⟨_, rfl, ?_⟩; first | omega | (simp only [List.length_append, rowsOf_len, erRows_len, List.length_cons, List.length_nil, marks_len, List.length_take, List.length_drop, List.length_set, List.length_map, List.length_range]; omega)) | (simp only [List.length_append, rowsOf_len, erRows_len, List.length_cons, List.length_nil, marks_len, List.length_take, List.length_drop, List.length_set, List.length_map, List.length_range]; omega) | kernel_rfl | (simp; done)); done)))
            exact ⟨k + 1, [(0, some 0), (1, some _)], by omega, by omega, ⟨⟨trivial, ⟨rfl, rfl, rfl⟩, ⟨rfl, rfl, rfl⟩, ⟨rfl, rfl, rfl⟩, trivial, trivial, trivial, ⟨rfl, rfl, rfl⟩, ⟨congrArg (fun z : Nat => AV.v (Value.int .i64 (z : Int))) (hC.symm), rfl, rfl⟩, ⟨rfl, rfl, rfl⟩, fitT_rep _ _ rfl⟩, ⟨.inl rfl, rfl, rfl, rfl, .inl rfl, rfl, rfl, rfl, trivial⟩, by simp [rn, hpAt]⟩, by simp [keepIds, rn]⟩
          · have f2 : ((j : Int) < (ds.length : Int)) = False := eq_false (by omega)
            have hT : (tkL12 ⟨n, room, xs, l⟩ a ds k) = tkL12 ⟨n, room, xs, l⟩ a ds (k + 1) := by
              rw [tkL12, if_neg hmiss]
              show _ = (if a ≤ n + (k : Int) ∧ n + (k : Int) - a < (ds.length : Int) then _ else _)
              rw [if_neg (by omega)]
            simp (maxSteps := 3000000) only [Try.f39, iv3, g_earFree, g_earEnd, erRows_len, rowsOf_len, ersOf_rows, bytesOf_rows, hgo, hlt, h00, hend, f1, f2, v1, g0, w1, w2, List.append_eq, List.cons_append, List.nil_append, Bool.not_true, Bool.not_false, ↓reduceIte, Bool.false_eq_true, toI12, tYs, evL, implies_true, oMin, x_min3, oMin3, x_max, oMax, oCopy, oBin, oUn, oLoadKid, oStoreTree, oField, oExtract, oNil, oSliceQ, oSliceE, x_appendZ, oAppendZ, oSliceEnd, endMode, oLoadRow, takeCells, TS.atRow, TS.ex, treeMode, AV.isOwn, TK.isSl, nilTk, nilsB, oLenQ, oLen, nodupB, treeOf, kidAbs, kidRows, TK.isCell, D.toL, oLoad, oStore, oMake, oIndexAddr, ↓reduceIte, reduceCtorEq, Nat.reduceBEq, Nat.reduceAdd, Nat.reduceMul, Nat.reduceLT, Nat.reduceSub, Nat.reduceLeDiff, Nat.reduceEqDiff, Nat.reduceBneDiff, Int.reduceToNat, decide_eq_true_eq, decide_eq_false_iff_not, beq_iff_eq, Int.toNat_natCast, loopK_normal, loopK_exit, loopK_ret]
            (repeat (refine And.intro ?_ ?_; focus (((repeat' apply And.intro) <;> first | omega | exact rowsOf_w _ | exact erRows_w _ | exact ⟨_, rfl⟩ | (refine ⟨_, rfl, ?_⟩; first | omega | (simp only [List.length_append, rowsOf_len, erRows_len, List.length_cons, List.length_nil, marks_len, List.length_take, List.length_drop, List.length_set, List.length_map, List.length_range]; omega)) | (simp only [List.length_append, rowsOf_len, erRows_len, List.length_cons, List.length_nil, marks_len, List.length_take, List.length_drop, List.length_set, List.length_map, List.length_range]; omega) | kernel_rfl | (simp; done)); done)))
            exact ⟨k + 1, [(0, some 0), (1, some _)], by omega, by omega, ⟨⟨trivial, ⟨rfl, rfl, rfl⟩, ⟨rfl, rfl, rfl⟩, ⟨rfl, rfl, rfl⟩, trivial, trivial, trivial, ⟨rfl, rfl, rfl⟩, ⟨congrArg (fun z : Nat => AV.v (Value.int .i64 (z : Int))) (hC.symm), rfl, rfl⟩, ⟨rfl, rfl, rfl⟩, fitT_rep _ _ rfl⟩, ⟨.inl rfl, rfl, rfl, rfl, .inl (congrArg (fun z => Blk.sl 51 2 (erRows z)) (hT)), rfl, rfl, rfl, trivial⟩, by simp [rn, hpAt]⟩, by simp [keepIds, rn]⟩
        · have f1 : (n + (k : Int) ≥ a) = False := eq_false c1
          have hT : (tkL12 ⟨n, room, xs, l⟩ a ds k) = tkL12 ⟨n, room, xs, l⟩ a ds (k + 1) := by
            rw [tkL12, if_neg hmiss]
            show _ = (if a ≤ n + (k : Int) ∧ n + (k : Int) - a < (ds.length : Int) then _ else _)
            rw [if_neg (by omega)]
          simp (maxSteps := 3000000) only [Try.f39, iv3, g_earFree, g_earEnd, erRows_len, rowsOf_len, ersOf_rows, bytesOf_rows, hgo, hlt, h00, hend, f1, w1, w2, List.append_eq, List.cons_append, List.nil_append, Bool.not_true, Bool.not_false, ↓reduceIte, Bool.false_eq_true, toI12, tYs, evL, implies_true, oMin, x_min3, oMin3, x_max, oMax, oCopy, oBin, oUn, oLoadKid, oStoreTree, oField, oExtract, oNil, oSliceQ, oSliceE, x_appendZ, oAppendZ, oSliceEnd, endMode, oLoadRow, takeCells, TS.atRow, TS.ex, treeMode, AV.isOwn, TK.isSl, nilTk, nilsB, oLenQ, oLen, nodupB, treeOf, kidAbs, kidRows, TK.isCell, D.toL, oLoad, oStore, oMake, oIndexAddr, ↓reduceIte, reduceCtorEq, Nat.reduceBEq, Nat.reduceAdd, Nat.reduceMul, Nat.reduceLT, Nat.reduceSub, Nat.reduceLeDiff, Nat.reduceEqDiff, Nat.reduceBneDiff, Int.reduceToNat, decide_eq_true_eq, decide_eq_false_iff_not, beq_iff_eq, Int.toNat_natCast, loopK_normal, loopK_exit, loopK_ret]
          (repeat (refine And.intro ?_ ?_; focus (((repeat' apply And.intro) <;> first | omega | exact rowsOf_w _ | exact erRows_w _ | exact ⟨_, rfl⟩ | (refine ⟨_, rfl, ?_⟩; first | omega | (simp only [List.length_append, rowsOf_len, erRows_len, List.length_cons, List.length_nil, marks_len, List.length_take, List.length_drop, List.length_set, List.length_map, List.length_range]; omega)) | (simp only [List.length_append, rowsOf_len, erRows_len, List.length_cons, List.length_nil, marks_len, List.length_take, List.length_drop, List.length_set, List.length_map, List.length_range]; omega) | kernel_rfl | (simp; done)); done)))
          exact ⟨k + 1, [(0, some 0), (1, some _)], by omega, by omega, ⟨⟨trivial, ⟨rfl, rfl, rfl⟩, ⟨rfl, rfl, rfl⟩, ⟨rfl, rfl, rfl⟩, trivial, trivial, trivial, ⟨rfl, rfl, rfl⟩, ⟨congrArg (fun z : Nat => AV.v (Value.int .i64 (z : Int))) (hC.symm), rfl, rfl⟩, ⟨rfl, rfl, rfl⟩, fitT_rep _ _ rfl⟩, ⟨.inl rfl, rfl, rfl, rfl, .inl (congrArg (fun z => Blk.sl 51 2 (erRows z)) (hT)), rfl, rfl, rfl, trivial⟩, by simp [rn, hpAt]⟩, by simp [keepIds, rn]⟩
    · have hgo : (n + (k : Int) < n + (FN : Int)) = False := eq_false (by omega)
      obtain rfl : k = FN := by omega
      simp (maxSteps := 3000000) only [Try.f39, iv3, g_earFree, g_earEnd, erRows_len, rowsOf_len, ersOf_rows, bytesOf_rows, hgo, hend, List.append_eq, List.cons_append, List.nil_append, Bool.not_true, Bool.not_false, ↓reduceIte, Bool.false_eq_true, toI12, tYs, evL, implies_true, oMin, x_min3, oMin3, x_max, oMax, oCopy, oBin, oUn, oLoadKid, oStoreTree, oField, oExtract, oNil, oSliceQ, oSliceE, x_appendZ, oAppendZ, oSliceEnd, endMode, oLoadRow, takeCells, TS.atRow, TS.ex, treeMode, AV.isOwn, TK.isSl, nilTk, nilsB, oLenQ, oLen, nodupB, treeOf, kidAbs, kidRows, TK.isCell, D.toL, oLoad, oStore, oMake, oIndexAddr, ↓reduceIte, reduceCtorEq, Nat.reduceBEq, Nat.reduceAdd, Nat.reduceMul, Nat.reduceLT, Nat.reduceSub, Nat.reduceLeDiff, Nat.reduceEqDiff, Nat.reduceBneDiff, Int.reduceToNat, decide_eq_true_eq, decide_eq_false_iff_not, beq_iff_eq, Int.toNat_natCast, loopK_normal, loopK_exit, loopK_ret]
      (repeat (refine And.intro ?_ ?_; focus (((repeat' apply And.intro) <;> first | omega | exact rowsOf_w _ | exact erRows_w _ | exact ⟨_, rfl⟩ | (refine ⟨_, rfl, ?_⟩; first | omega | (simp only [List.length_append, rowsOf_len, erRows_len, List.length_cons, List.length_nil, marks_len, List.length_take, List.length_drop, List.length_set, List.length_map, List.length_range]; omega)) | (simp only [List.length_append, rowsOf_len, erRows_len, List.length_cons, List.length_nil, marks_len, List.length_take, List.length_drop, List.length_set, List.length_map, List.length_range]; omega) | kernel_rfl | (simp; done)); done)))
      exact ⟨_, [(0, some _)], rfl, ⟨⟨⟨rfl, rfl, rfl⟩, trivial⟩, ⟨.inl rfl, rfl, rfl, rfl, trivial⟩, by simp [rn, hpAt]⟩⟩
  · cases hg
def iv4 : List (FuncId × Abs) := [(11, pureAbs g_earOk), (34, pureAbs g_place), (11, pureAbs g_earOk), (39, pureAbs g_earTaken), (40, pureAbs g_inRow), (41, pureAbs g_bytesCopied), (42, pureAbs g_erBytes)]
theorem iv4_ok : ∀ p ∈ iv4, CallOk Try.prog p.1 p.2 := by
  intro p hp
  simp only [iv4, List.mem_cons, List.not_mem_nil, or_false] at hp
  rcases hp with rfl | rfl | rfl | rfl | rfl | rfl | rfl
  · exact implEarOk_ok.call
  · exact isPlace_ok.call
  · exact implEarOk_ok.call
  · exact earTaken_ok.call
  · exact inRow_ok.call
  · exact bytesCopied_ok.call
  · exact erBytes_ok.call
set_option maxHeartbeats 8000000 in
set_option maxRecDepth 100000 in
theorem implEarHear_ok : PureOk Try.prog 17 g_earHear := by
  refine PureOk.of_vc (G := iv4) iv4_ok mixed Try.func17 (by kernel_rfl) rfl ?_
  intro args cnd r bs hg hc
  unfold g_earHear at hg
  split at hg
  · rename_i n room sg rg sf rf a sd rd
    cases hg
    obtain ⟨⟨⟨xs, rfl, hx⟩, l, rfl, hl⟩, ds, rfl, hd⟩ := hc
    rw [bytesOf_rows, bytesOf_rows, ersOf_rows]
    refine ⟨⟨rfl, by intro u hu; simp only [List.mem_cons, List.not_mem_nil, or_false] at hu; rcases hu with rfl | rfl; exact rowsOf_flat _; exact erRows_flat _, by simp [AV.ids, AV.ids.idsL]⟩, [.agg [.v (.int .i64 n), .v (.int .i64 room), .l 1 (rowsOfBytes xs), .l 2 (erRows l)], .v (.int .i64 a), .l 1 (rowsOfBytes ds)], rfl, fun w vs h => CvL.ok (.cons (.cons (.refl _) (.cons (.refl _) (.cons (.l _ _ _ (rowsOf_w xs)) (.cons (.l _ _ _ (erRows_w l)) .nil)))) (.cons (.refl _) (.cons (.l _ _ _ (rowsOf_w ds)) .nil))) h, ?_⟩
    rcases h0 : eaB ⟨n, room, xs, l⟩ with _ | _
    · have eO : hrO ⟨n, room, xs, l⟩ a ds = false := by rw [hrO, h0]; rfl
      have eV : hrV ⟨n, room, xs, l⟩ a ds = ea0 := if_neg (by rw [eO]; decide)
      rw [eV]
      simp (maxSteps := 3000000) only [Try.f17, iv4, g_earOk, g_place, g_earTaken, g_inRow, g_bytesCopied, g_erBytes, erRows_len, rowsOf_len, ersOf_rows, bytesOf_rows, erRows_take, erRows_drop, List.drop_zero, h0, List.append_eq, List.cons_append, List.nil_append, Bool.not_true, Bool.not_false, ↓reduceIte, Bool.false_eq_true, tYs, evL, implies_true, oMin, x_min3, oMin3, x_max, oMax, oCopy, oBin, oUn, oLoadKid, oStoreTree, oField, oExtract, oNil, oSliceQ, oSliceE, x_appendZ, oAppendZ, oSliceEnd, endMode, oLoadRow, takeCells, TS.atRow, TS.ex, treeMode, AV.isOwn, TK.isSl, nilTk, nilsB, oLenQ, oLen, nodupB, treeOf, kidAbs, kidRows, TK.isCell, D.toL, oLoad, oStore, oMake, oIndexAddr, ↓reduceIte, reduceCtorEq, Nat.reduceBEq, Nat.reduceAdd, Nat.reduceMul, Nat.reduceLT, Nat.reduceSub, Nat.reduceLeDiff, Nat.reduceEqDiff, Nat.reduceBneDiff, Int.reduceToNat, decide_eq_true_eq, decide_eq_false_iff_not, beq_iff_eq, Int.toNat_natCast, loopK_normal, loopK_exit, loopK_ret]
      (repeat (refine And.intro ?_ ?_; focus (((repeat' apply And.intro) <;> first | omega | exact rowsOf_w _ | exact erRows_w _ | exact ⟨_, rfl⟩ | (refine ⟨_, rfl, ?_⟩; first | omega | (simp only [List.length_append, rowsOf_len, erRows_len, List.length_cons, List.length_nil, marks_len, List.length_take, List.length_drop, List.length_set, List.length_map, List.length_range]; omega)) | (simp only [List.length_append, rowsOf_len, erRows_len, List.length_cons, List.length_nil, marks_len, List.length_take, List.length_drop, List.length_set, List.length_map, List.length_range]; omega) | kernel_rfl | (simp; done)); done)))
      exact ⟨_, [(0, none), (1, none)], rfl, ⟨⟨⟨rfl, rfl, rfl⟩, trivial⟩, ⟨⟨by omega, rfl⟩, rfl, rfl, rfl, ⟨by omega, rfl⟩, rfl, rfl, rfl, trivial⟩, by simp [rn, hpAt]⟩⟩
    rcases h1 : inZ a 0 1000000 with _ | _
    · have eO : hrO ⟨n, room, xs, l⟩ a ds = false := by rw [hrO, h0, h1]; rfl
      have eV : hrV ⟨n, room, xs, l⟩ a ds = ea0 := if_neg (by rw [eO]; decide)
      rw [eV]
      simp (maxSteps := 3000000) only [Try.f17, iv4, g_earOk, g_place, g_earTaken, g_inRow, g_bytesCopied, g_erBytes, erRows_len, rowsOf_len, ersOf_rows, bytesOf_rows, erRows_take, erRows_drop, List.drop_zero, h0, h1, List.append_eq, List.cons_append, List.nil_append, Bool.not_true, Bool.not_false, ↓reduceIte, Bool.false_eq_true, tYs, evL, implies_true, oMin, x_min3, oMin3, x_max, oMax, oCopy, oBin, oUn, oLoadKid, oStoreTree, oField, oExtract, oNil, oSliceQ, oSliceE, x_appendZ, oAppendZ, oSliceEnd, endMode, oLoadRow, takeCells, TS.atRow, TS.ex, treeMode, AV.isOwn, TK.isSl, nilTk, nilsB, oLenQ, oLen, nodupB, treeOf, kidAbs, kidRows, TK.isCell, D.toL, oLoad, oStore, oMake, oIndexAddr, ↓reduceIte, reduceCtorEq, Nat.reduceBEq, Nat.reduceAdd, Nat.reduceMul, Nat.reduceLT, Nat.reduceSub, Nat.reduceLeDiff, Nat.reduceEqDiff, Nat.reduceBneDiff, Int.reduceToNat, decide_eq_true_eq, decide_eq_false_iff_not, beq_iff_eq, Int.toNat_natCast, loopK_normal, loopK_exit, loopK_ret]
      (repeat (refine And.intro ?_ ?_; focus (((repeat' apply And.intro) <;> first | omega | exact rowsOf_w _ | exact erRows_w _ | exact ⟨_, rfl⟩ | (refine ⟨_, rfl, ?_⟩; first | omega | (simp only [List.length_append, rowsOf_len, erRows_len, List.length_cons, List.length_nil, marks_len, List.length_take, List.length_drop, List.length_set, List.length_map, List.length_range]; omega)) | (simp only [List.length_append, rowsOf_len, erRows_len, List.length_cons, List.length_nil, marks_len, List.length_take, List.length_drop, List.length_set, List.length_map, List.length_range]; omega) | kernel_rfl | (simp; done)); done)))
      exact ⟨_, [(0, none), (1, none)], rfl, ⟨⟨⟨rfl, rfl, rfl⟩, trivial⟩, ⟨⟨by omega, rfl⟩, rfl, rfl, rfl, ⟨by omega, rfl⟩, rfl, rfl, rfl, trivial⟩, by simp [rn, hpAt]⟩⟩
    have b1 := inZ_iff.1 h1
    have hcnt := ea_count h0
    have hM := hrM_le h0 a ds
    have hMl := runE_le n (hrL ⟨n, room, xs, l⟩ a ds)
    have hLl : (hrL ⟨n, room, xs, l⟩ a ds).length ≤ 32 := by
      rw [← tk_hr h0 a ds]
      have h := tkL12_len ⟨n, room, xs, l⟩ a ds (eaF ⟨n, room, xs, l⟩).toNat
      have hr := (eaB_iff.1 h0).2.1.2
      have hF : eaF ⟨n, room, xs, l⟩ = room - (xs.length : Int) := rfl
      dsimp only at hr
      omega
    obtain ⟨b2, b3, b4, b5, b6⟩ := eaB_iff.1 h0
    dsimp only at hcnt b2 b3 b4
    obtain ⟨L, hL⟩ : ∃ L, L = hrL ⟨n, room, xs, l⟩ a ds := ⟨_, rfl⟩
    rw [← hL] at hMl hLl
    have hMe : hrM ⟨n, room, xs, l⟩ a ds = runE n L := by rw [hL]; rfl
    obtain ⟨M, hMM⟩ : ∃ M, M = runE n L := ⟨_, rfl⟩
    rw [← hMM] at hMl hMe
    have hOk : hrO ⟨n, room, xs, l⟩ a ds = inZ (n + (M : Int)) 0 1000000 := by
      rw [hrO, h0, h1, hMe, Bool.eq_iff_iff]
      simp only [Bool.true_and, decide_eq_true_eq, inZ_iff]
      show n + (M : Int) ≤ 1000000 ↔ _
      omega
    have hEe : hrE ⟨n, room, xs, l⟩ a ds = ⟨n + (M : Int), room, xs ++ ((L.take M).map Er.b), L.drop M⟩ := by rw [hrE, hMe, ← hL]
    have v1 : IntKind.i64.wrap (n + (M : Int)) = n + (M : Int) := wrap_id (by omega) (by omega)
    have g1 : (0 ≤ (M : Int)) = True := eq_true (by omega)
    have g2 : ((M : Int) ≤ (L.length : Int)) = True := eq_true (by omega)
    rcases h2 : inZ (n + (M : Int)) 0 1000000 with _ | _
    · have eO : hrO ⟨n, room, xs, l⟩ a ds = false := by rw [hOk]; exact h2
      have eV : hrV ⟨n, room, xs, l⟩ a ds = ea0 := if_neg (by rw [eO]; decide)
      rw [eV]
      simp (maxSteps := 3000000) only [Try.f17, iv4, g_earOk, g_place, g_earTaken, g_inRow, g_bytesCopied, g_erBytes, erRows_len, rowsOf_len, ersOf_rows, bytesOf_rows, erRows_take, erRows_drop, List.drop_zero, h0, h1, ← hL, ← hMM, v1, h2, Int.toNat_natCast, List.append_eq, List.cons_append, List.nil_append, Bool.not_true, Bool.not_false, ↓reduceIte, Bool.false_eq_true, tYs, evL, implies_true, oMin, x_min3, oMin3, x_max, oMax, oCopy, oBin, oUn, oLoadKid, oStoreTree, oField, oExtract, oNil, oSliceQ, oSliceE, x_appendZ, oAppendZ, oSliceEnd, endMode, oLoadRow, takeCells, TS.atRow, TS.ex, treeMode, AV.isOwn, TK.isSl, nilTk, nilsB, oLenQ, oLen, nodupB, treeOf, kidAbs, kidRows, TK.isCell, D.toL, oLoad, oStore, oMake, oIndexAddr, ↓reduceIte, reduceCtorEq, Nat.reduceBEq, Nat.reduceAdd, Nat.reduceMul, Nat.reduceLT, Nat.reduceSub, Nat.reduceLeDiff, Nat.reduceEqDiff, Nat.reduceBneDiff, Int.reduceToNat, decide_eq_true_eq, decide_eq_false_iff_not, beq_iff_eq, Int.toNat_natCast, loopK_normal, loopK_exit, loopK_ret]
      (repeat (refine And.intro ?_ ?_; focus (((repeat' apply And.intro) <;> first | omega | exact h0 | exact h1 | exact rowsOf_w _ | exact erRows_w _ | exact ⟨_, rfl⟩ | (refine ⟨_, rfl, ?_⟩; first | omega | exact h0 | exact h1 | (simp only [List.length_append, rowsOf_len, erRows_len, List.length_cons, List.length_nil, marks_len, List.length_take, List.length_drop, List.length_set, List.length_map, List.length_range]; omega)) | (simp only [List.length_append, rowsOf_len, erRows_len, List.length_cons, List.length_nil, marks_len, List.length_take, List.length_drop, List.length_set, List.length_map, List.length_range]; omega) | kernel_rfl | (simp; done)); done)))
      exact ⟨_, [(0, none), (1, none)], rfl, ⟨⟨⟨rfl, rfl, rfl⟩, trivial⟩, ⟨⟨by omega, rfl⟩, rfl, rfl, rfl, ⟨by omega, rfl⟩, rfl, rfl, rfl, trivial⟩, by simp [rn, hpAt]⟩⟩
    · have eV : hrV ⟨n, room, xs, l⟩ a ds = ⟨n + (M : Int), room, xs ++ ((L.take M).map Er.b), L.drop M⟩ := by rw [hrV, if_pos (by rw [hOk]; exact h2), hEe]
      rw [eV]
      simp (maxSteps := 3000000) only [Try.f17, iv4, g_earOk, g_place, g_earTaken, g_inRow, g_bytesCopied, g_erBytes, erRows_len, rowsOf_len, ersOf_rows, bytesOf_rows, erRows_take, erRows_drop, List.drop_zero, h0, h1, ← hL, ← hMM, v1, h2, g1, g2, rowsOf_app, Int.toNat_natCast, List.append_eq, List.cons_append, List.nil_append, Bool.not_true, Bool.not_false, ↓reduceIte, Bool.false_eq_true, tYs, evL, implies_true, oMin, x_min3, oMin3, x_max, oMax, oCopy, oBin, oUn, oLoadKid, oStoreTree, oField, oExtract, oNil, oSliceQ, oSliceE, x_appendZ, oAppendZ, oSliceEnd, endMode, oLoadRow, takeCells, TS.atRow, TS.ex, treeMode, AV.isOwn, TK.isSl, nilTk, nilsB, oLenQ, oLen, nodupB, treeOf, kidAbs, kidRows, TK.isCell, D.toL, oLoad, oStore, oMake, oIndexAddr, ↓reduceIte, reduceCtorEq, Nat.reduceBEq, Nat.reduceAdd, Nat.reduceMul, Nat.reduceLT, Nat.reduceSub, Nat.reduceLeDiff, Nat.reduceEqDiff, Nat.reduceBneDiff, Int.reduceToNat, decide_eq_true_eq, decide_eq_false_iff_not, beq_iff_eq, Int.toNat_natCast, loopK_normal, loopK_exit, loopK_ret]
      (repeat (refine And.intro ?_ ?_; focus (((repeat' apply And.intro) <;> first | omega | exact h0 | exact h1 | exact rowsOf_w _ | exact erRows_w _ | exact ⟨_, rfl⟩ | (refine ⟨_, rfl, ?_⟩; first | omega | exact h0 | exact h1 | (simp only [List.length_append, rowsOf_len, erRows_len, List.length_cons, List.length_nil, marks_len, List.length_take, List.length_drop, List.length_set, List.length_map, List.length_range]; omega)) | (simp only [List.length_append, rowsOf_len, erRows_len, List.length_cons, List.length_nil, marks_len, List.length_take, List.length_drop, List.length_set, List.length_map, List.length_range]; omega) | kernel_rfl | (simp; done)); done)))
      exact ⟨_, [(0, some _), (1, some _)], rfl, ⟨⟨⟨rfl, rfl, rfl⟩, trivial⟩, ⟨.inl rfl, rfl, rfl, rfl, .inl rfl, rfl, rfl, rfl, trivial⟩, by simp [rn, hpAt]⟩⟩
  · cases hg
def iv5 : List (FuncId × Abs) := [(11, pureAbs g_earOk), (41, pureAbs g_bytesCopied), (45, pureAbs g_erCopied)]
theorem iv5_ok : ∀ p ∈ iv5, CallOk Try.prog p.1 p.2 := by
  intro p hp
  simp only [iv5, List.mem_cons, List.not_mem_nil, or_false] at hp
  rcases hp with rfl | rfl | rfl
  · exact implEarOk_ok.call
  · exact bytesCopied_ok.call
  · exact erCopied_ok.call
set_option maxHeartbeats 2000000 in
set_option maxRecDepth 100000 in
theorem implEarRead_ok : PureOk Try.prog 23 g_earRead := by
  refine PureOk.of_vc (G := iv5) iv5_ok mixed Try.func23 (by kernel_rfl) rfl ?_
  intro args cnd r bs hg hc
  unfold g_earRead at hg
  split at hg
  · rename_i n room sg rg sf rf m
    cases hg
    obtain ⟨⟨xs, rfl, hx⟩, l, rfl, hl⟩ := hc
    rw [bytesOf_rows, ersOf_rows]
    refine ⟨⟨rfl, by intro u hu; simp only [List.mem_cons, List.not_mem_nil, or_false] at hu; rcases hu with rfl | rfl | rfl; exact rowsOf_flat _; exact erRows_flat _; exact rowsOf_flat _, by simp [AV.ids, AV.ids.idsL]⟩, [.agg [.v (.int .i64 n), .v (.int .i64 room), .l 1 (rowsOfBytes xs), .l 2 (erRows l)], .v (.int .i64 m)], rfl, fun w vs h => CvL.ok (.cons (.cons (.refl _) (.cons (.refl _) (.cons (.l _ _ _ (rowsOf_w xs)) (.cons (.l _ _ _ (erRows_w l)) .nil)))) (.cons (.refl _) .nil)) h, ?_⟩
    have no : rdO ⟨n, room, xs, l⟩ m = false → rdV12 ⟨n, room, xs, l⟩ m = ea0 ∧ rdB12 ⟨n, room, xs, l⟩ m = [] := fun h => ⟨if_neg (by rw [h]; decide), if_neg (by rw [h]; decide)⟩
    have yes : rdO ⟨n, room, xs, l⟩ m = true → rdV12 ⟨n, room, xs, l⟩ m = rdE ⟨n, room, xs, l⟩ m ∧ rdB12 ⟨n, room, xs, l⟩ m = xs.take (rdN ⟨n, room, xs, l⟩ m) := fun h => ⟨if_pos h, if_pos h⟩
    rcases h0 : eaB ⟨n, room, xs, l⟩ with _ | _
    · obtain ⟨n1, n2⟩ := no (by rw [rdO, h0]; rfl)
      rw [n1, n2]
      clear no yes
      simp (maxSteps := 3000000) only [Try.f23, iv5, g_earOk, g_bytesCopied, g_erCopied, erRows_len, rowsOf_len, ersOf_rows, bytesOf_rows, rowsOf_drop, rowsOf_take, List.take_length, List.drop_zero, h0, List.append_eq, List.cons_append, List.nil_append, Bool.not_true, Bool.not_false, ↓reduceIte, Bool.false_eq_true, tYs, evL, implies_true, oMin, x_min3, oMin3, x_max, oMax, oCopy, oBin, oUn, oLoadKid, oStoreTree, oField, oExtract, oNil, oSliceQ, oSliceE, x_appendZ, oAppendZ, oSliceEnd, endMode, oLoadRow, takeCells, TS.atRow, TS.ex, treeMode, AV.isOwn, TK.isSl, nilTk, nilsB, oLenQ, oLen, nodupB, treeOf, kidAbs, kidRows, TK.isCell, D.toL, oLoad, oStore, oMake, oIndexAddr, ↓reduceIte, reduceCtorEq, Nat.reduceBEq, Nat.reduceAdd, Nat.reduceMul, Nat.reduceLT, Nat.reduceSub, Nat.reduceLeDiff, Nat.reduceEqDiff, Nat.reduceBneDiff, Int.reduceToNat, decide_eq_true_eq, decide_eq_false_iff_not, beq_iff_eq, Int.toNat_natCast, loopK_normal, loopK_exit, loopK_ret]
      (repeat (refine And.intro ?_ ?_; focus (((repeat' apply And.intro) <;> first | omega | exact rowsOf_w _ | exact erRows_w _ | exact ⟨_, rfl⟩ | (refine ⟨_, rfl, ?_⟩; first | omega | (simp only [List.length_append, rowsOf_len, erRows_len, List.length_cons, List.length_nil, marks_len, List.length_take, List.length_drop, List.length_set, List.length_map, List.length_range]; omega)) | (simp only [List.length_append, rowsOf_len, erRows_len, List.length_cons, List.length_nil, marks_len, List.length_take, List.length_drop, List.length_set, List.length_map, List.length_range]; omega) | kernel_rfl | (simp; done)); done)))
      exact ⟨_, [(0, none), (1, none), (2, none)], rfl, ⟨⟨⟨rfl, rfl, rfl⟩, trivial⟩, ⟨⟨by omega, rfl⟩, rfl, rfl, rfl, ⟨by omega, rfl⟩, rfl, rfl, rfl, ⟨by omega, rfl⟩, rfl, rfl, rfl, trivial⟩, by simp [rn, hpAt]⟩⟩
    · by_cases hm : m < 0
      · have hm' : (m < 0) = True := eq_true hm
        obtain ⟨n1, n2⟩ := no (by rw [rdO, decide_eq_false (show ¬ 0 ≤ m by omega), Bool.and_false])
        rw [n1, n2]
        clear no yes
        simp (maxSteps := 3000000) only [Try.f23, iv5, g_earOk, g_bytesCopied, g_erCopied, erRows_len, rowsOf_len, ersOf_rows, bytesOf_rows, rowsOf_drop, rowsOf_take, List.take_length, List.drop_zero, h0, hm', List.append_eq, List.cons_append, List.nil_append, Bool.not_true, Bool.not_false, ↓reduceIte, Bool.false_eq_true, tYs, evL, implies_true, oMin, x_min3, oMin3, x_max, oMax, oCopy, oBin, oUn, oLoadKid, oStoreTree, oField, oExtract, oNil, oSliceQ, oSliceE, x_appendZ, oAppendZ, oSliceEnd, endMode, oLoadRow, takeCells, TS.atRow, TS.ex, treeMode, AV.isOwn, TK.isSl, nilTk, nilsB, oLenQ, oLen, nodupB, treeOf, kidAbs, kidRows, TK.isCell, D.toL, oLoad, oStore, oMake, oIndexAddr, ↓reduceIte, reduceCtorEq, Nat.reduceBEq, Nat.reduceAdd, Nat.reduceMul, Nat.reduceLT, Nat.reduceSub, Nat.reduceLeDiff, Nat.reduceEqDiff, Nat.reduceBneDiff, Int.reduceToNat, decide_eq_true_eq, decide_eq_false_iff_not, beq_iff_eq, Int.toNat_natCast, loopK_normal, loopK_exit, loopK_ret]
        (repeat (refine And.intro ?_ ?_; focus (((repeat' apply And.intro) <;> first | omega | exact rowsOf_w _ | exact erRows_w _ | exact ⟨_, rfl⟩ | (refine ⟨_, rfl, ?_⟩; first | omega | (simp only [List.length_append, rowsOf_len, erRows_len, List.length_cons, List.length_nil, marks_len, List.length_take, List.length_drop, List.length_set, List.length_map, List.length_range]; omega)) | (simp only [List.length_append, rowsOf_len, erRows_len, List.length_cons, List.length_nil, marks_len, List.length_take, List.length_drop, List.length_set, List.length_map, List.length_range]; omega) | kernel_rfl | (simp; done)); done)))
        exact ⟨_, [(0, none), (1, none), (2, none)], rfl, ⟨⟨⟨rfl, rfl, rfl⟩, trivial⟩, ⟨⟨by omega, rfl⟩, rfl, rfl, rfl, ⟨by omega, rfl⟩, rfl, rfl, rfl, ⟨by omega, rfl⟩, rfl, rfl, rfl, trivial⟩, by simp [rn, hpAt]⟩⟩
      · have hm' : (m < 0) = False := eq_false hm
        obtain ⟨n1, n2⟩ := yes (by rw [rdO, h0, decide_eq_true (show 0 ≤ m by omega)]; rfl)
        rw [n1, n2]
        clear no yes
        have hcnt := ea_count h0
        have hroom := (eaB_iff.1 h0).2.1
        dsimp only at hcnt hroom
        obtain ⟨N, hN⟩ : ∃ N, N = rdN ⟨n, room, xs, l⟩ m := ⟨_, rfl⟩
        have hNl : N ≤ xs.length := by rw [hN]; exact Nat.min_le_right ..
        have hmin : (N : Int) = min m (xs.length : Int) := by rw [hN, rdN]; show ((min m.toNat xs.length : Nat) : Int) = _; omega
        have hE : rdE ⟨n, room, xs, l⟩ m = ⟨n, room, xs.drop N, l⟩ := by rw [hN]; rfl
        rw [← hN, hE]
        clear hN hE
        have g1 : (0 ≤ (N : Int)) = True := eq_true (by omega)
        have g2 : ((N : Int) ≤ (xs.length : Int)) = True := eq_true (by omega)
        by_cases hb : m > (xs.length : Int)
        · have f1 : (m > (xs.length : Int)) = True := eq_true hb
          obtain rfl : N = xs.length := by omega
          simp (maxSteps := 3000000) only [Try.f23, iv5, g_earOk, g_bytesCopied, g_erCopied, erRows_len, rowsOf_len, ersOf_rows, bytesOf_rows, rowsOf_drop, rowsOf_take, List.take_length, List.drop_zero, h0, hm', f1, g1, g2, Int.toNat_natCast, List.append_eq, List.cons_append, List.nil_append, Bool.not_true, Bool.not_false, ↓reduceIte, Bool.false_eq_true, tYs, evL, implies_true, oMin, x_min3, oMin3, x_max, oMax, oCopy, oBin, oUn, oLoadKid, oStoreTree, oField, oExtract, oNil, oSliceQ, oSliceE, x_appendZ, oAppendZ, oSliceEnd, endMode, oLoadRow, takeCells, TS.atRow, TS.ex, treeMode, AV.isOwn, TK.isSl, nilTk, nilsB, oLenQ, oLen, nodupB, treeOf, kidAbs, kidRows, TK.isCell, D.toL, oLoad, oStore, oMake, oIndexAddr, ↓reduceIte, reduceCtorEq, Nat.reduceBEq, Nat.reduceAdd, Nat.reduceMul, Nat.reduceLT, Nat.reduceSub, Nat.reduceLeDiff, Nat.reduceEqDiff, Nat.reduceBneDiff, Int.reduceToNat, decide_eq_true_eq, decide_eq_false_iff_not, beq_iff_eq, Int.toNat_natCast, loopK_normal, loopK_exit, loopK_ret]
          (repeat (refine And.intro ?_ ?_; focus (((repeat' apply And.intro) <;> first | omega | exact rowsOf_w _ | exact erRows_w _ | exact ⟨_, rfl⟩ | (refine ⟨_, rfl, ?_⟩; first | omega | (simp only [List.length_append, rowsOf_len, erRows_len, List.length_cons, List.length_nil, marks_len, List.length_take, List.length_drop, List.length_set, List.length_map, List.length_range]; omega)) | (simp only [List.length_append, rowsOf_len, erRows_len, List.length_cons, List.length_nil, marks_len, List.length_take, List.length_drop, List.length_set, List.length_map, List.length_range]; omega) | kernel_rfl | (simp; done)); done)))
          exact ⟨_, [(0, some _), (1, some _), (2, some _)], rfl, ⟨⟨⟨rfl, rfl, rfl⟩, trivial⟩, ⟨.inl rfl, rfl, rfl, rfl, .inl rfl, rfl, rfl, rfl, .inl rfl, rfl, rfl, rfl, trivial⟩, by simp [rn, hpAt]⟩⟩
        · have f1 : (m > (xs.length : Int)) = False := eq_false hb
          obtain rfl : m = (N : Int) := by omega
          simp (maxSteps := 3000000) only [Try.f23, iv5, g_earOk, g_bytesCopied, g_erCopied, erRows_len, rowsOf_len, ersOf_rows, bytesOf_rows, rowsOf_drop, rowsOf_take, List.take_length, List.drop_zero, h0, hm', f1, g1, g2, Int.toNat_natCast, List.append_eq, List.cons_append, List.nil_append, Bool.not_true, Bool.not_false, ↓reduceIte, Bool.false_eq_true, tYs, evL, implies_true, oMin, x_min3, oMin3, x_max, oMax, oCopy, oBin, oUn, oLoadKid, oStoreTree, oField, oExtract, oNil, oSliceQ, oSliceE, x_appendZ, oAppendZ, oSliceEnd, endMode, oLoadRow, takeCells, TS.atRow, TS.ex, treeMode, AV.isOwn, TK.isSl, nilTk, nilsB, oLenQ, oLen, nodupB, treeOf, kidAbs, kidRows, TK.isCell, D.toL, oLoad, oStore, oMake, oIndexAddr, ↓reduceIte, reduceCtorEq, Nat.reduceBEq, Nat.reduceAdd, Nat.reduceMul, Nat.reduceLT, Nat.reduceSub, Nat.reduceLeDiff, Nat.reduceEqDiff, Nat.reduceBneDiff, Int.reduceToNat, decide_eq_true_eq, decide_eq_false_iff_not, beq_iff_eq, Int.toNat_natCast, loopK_normal, loopK_exit, loopK_ret]
          (repeat (refine And.intro ?_ ?_; focus (((repeat' apply And.intro) <;> first | omega | exact rowsOf_w _ | exact erRows_w _ | exact ⟨_, rfl⟩ | (refine ⟨_, rfl, ?_⟩; first | omega | (simp only [List.length_append, rowsOf_len, erRows_len, List.length_cons, List.length_nil, marks_len, List.length_take, List.length_drop, List.length_set, List.length_map, List.length_range]; omega)) | (simp only [List.length_append, rowsOf_len, erRows_len, List.length_cons, List.length_nil, marks_len, List.length_take, List.length_drop, List.length_set, List.length_map, List.length_range]; omega) | kernel_rfl | (simp; done)); done)))
          exact ⟨_, [(0, some _), (1, some _), (2, some _)], rfl, ⟨⟨⟨rfl, rfl, rfl⟩, trivial⟩, ⟨.inl rfl, rfl, rfl, rfl, .inl rfl, rfl, rfl, rfl, .inl rfl, rfl, rfl, rfl, trivial⟩, by simp [rn, hpAt]⟩⟩
  · cases hg
def iv6 : List (FuncId × Abs) := [(11, pureAbs g_earOk), (40, pureAbs g_inRow)]
theorem iv6_ok : ∀ p ∈ iv6, CallOk Try.prog p.1 p.2 := by
  intro p hp
  simp only [iv6, List.mem_cons, List.not_mem_nil, or_false] at hp
  rcases hp with rfl | rfl
  · exact implEarOk_ok.call
  · exact inRow_ok.call
set_option maxHeartbeats 4000000 in
set_option maxRecDepth 100000 in
theorem implEarRanges_ok : PureOk Try.prog 26 g_earRanges := by
  refine PureOk.of_vc (G := iv6) iv6_ok mixed Try.func26 (by kernel_rfl) rfl ?_
  intro args cnd r bs hg hc
  unfold g_earRanges at hg
  split at hg
  · rename_i n room sg rg sf rf
    cases hg
    obtain ⟨⟨xs, rfl, hx⟩, l, rfl, hl⟩ := hc
    rw [bytesOf_rows, ersOf_rows]
    refine ⟨⟨rfl, by simpa [flatB] using rgRows_flat (rnV ⟨n, room, xs, l⟩), by simp [AV.ids, AV.ids.idsL]⟩, [.agg [.v (.int .i64 n), .v (.int .i64 room), .l 1 (rowsOfBytes xs), .l 2 (erRows l)]], rfl, fun w vs h => CvL.ok (.cons (.cons (.refl _) (.cons (.refl _) (.cons (.l _ _ _ (rowsOf_w xs)) (.cons (.l _ _ _ (erRows_w l)) .nil)))) .nil) h, ?_⟩
    rcases h0 : eaB ⟨n, room, xs, l⟩ with _ | _
    · have e : rnV ⟨n, room, xs, l⟩ = [] := if_neg (by rw [h0]; decide)
      rw [e]
      simp (maxSteps := 3000000) only [Try.f26, iv6, g_earOk, g_inRow, erRows_len, rowsOf_len, rgRows_len, ersOf_rows, bytesOf_rows, erRows_drop, h0, List.append_eq, List.cons_append, List.nil_append, Bool.not_true, Bool.not_false, ↓reduceIte, Bool.false_eq_true, toI12, tYs, evL, implies_true, oMin, x_min3, oMin3, x_max, oMax, oCopy, oBin, oUn, oLoadKid, oStoreTree, oField, oExtract, oNil, oSliceQ, oSliceE, x_appendZ, oAppendZ, oSliceEnd, endMode, oLoadRow, takeCells, TS.atRow, TS.ex, treeMode, AV.isOwn, TK.isSl, nilTk, nilsB, oLenQ, oLen, nodupB, treeOf, kidAbs, kidRows, TK.isCell, D.toL, oLoad, oStore, oMake, oIndexAddr, ↓reduceIte, reduceCtorEq, Nat.reduceBEq, Nat.reduceAdd, Nat.reduceMul, Nat.reduceLT, Nat.reduceSub, Nat.reduceLeDiff, Nat.reduceEqDiff, Nat.reduceBneDiff, Int.reduceToNat, decide_eq_true_eq, decide_eq_false_iff_not, beq_iff_eq, Int.toNat_natCast, loopK_normal, loopK_exit, loopK_ret]
      (repeat (refine And.intro ?_ ?_; focus (((repeat' apply And.intro) <;> first | omega | exact rowsOf_w _ | exact erRows_w _ | exact ⟨_, rfl⟩ | (refine ⟨_, rfl, ?_⟩; first | omega | (simp only [List.length_append, rowsOf_len, erRows_len, List.length_cons, List.length_nil, marks_len, List.length_take, List.length_drop, List.length_set, List.length_map, List.length_range]; omega)) | (simp only [List.length_append, rowsOf_len, erRows_len, List.length_cons, List.length_nil, marks_len, List.length_take, List.length_drop, List.length_set, List.length_map, List.length_range]; omega) | kernel_rfl | (simp; done)); done)))
      exact ⟨_, [(0, none)], rfl, ⟨⟨⟨rfl, rfl, rfl⟩, trivial⟩, ⟨⟨by omega, rfl⟩, rfl, rfl, rfl, trivial⟩, by simp [rn, hpAt]⟩⟩
    have hV : rnV ⟨n, room, xs, l⟩ = rnK l l.length := if_pos h0
    rw [hV]
    obtain ⟨b2, b3, b4, b5, b6⟩ := eaB_iff.1 h0
    dsimp only at b2 b3 b4 b5 b6
    have hF : eaF ⟨n, room, xs, l⟩ = room - (xs.length : Int) := rfl
    simp (maxSteps := 3000000) only [Try.f26, iv6, g_earOk, g_inRow, erRows_len, rowsOf_len, rgRows_len, ersOf_rows, bytesOf_rows, erRows_drop, h0, List.replicate, List.append_eq, List.cons_append, List.nil_append, Bool.not_true, Bool.not_false, ↓reduceIte, Bool.false_eq_true, toI12, tYs, evL, implies_true, oMin, x_min3, oMin3, x_max, oMax, oCopy, oBin, oUn, oLoadKid, oStoreTree, oField, oExtract, oNil, oSliceQ, oSliceE, x_appendZ, oAppendZ, oSliceEnd, endMode, oLoadRow, takeCells, TS.atRow, TS.ex, treeMode, AV.isOwn, TK.isSl, nilTk, nilsB, oLenQ, oLen, nodupB, treeOf, kidAbs, kidRows, TK.isCell, D.toL, oLoad, oStore, oMake, oIndexAddr, ↓reduceIte, reduceCtorEq, Nat.reduceBEq, Nat.reduceAdd, Nat.reduceMul, Nat.reduceLT, Nat.reduceSub, Nat.reduceLeDiff, Nat.reduceEqDiff, Nat.reduceBneDiff, Int.reduceToNat, decide_eq_true_eq, decide_eq_false_iff_not, beq_iff_eq, Int.toNat_natCast, loopK_normal, loopK_exit, loopK_ret]
    (repeat (refine And.intro ?_ ?_; focus (((repeat' apply And.intro) <;> first | omega | exact rowsOf_w _ | exact erRows_w _ | exact ⟨_, rfl⟩ | (refine ⟨_, rfl, ?_⟩; first | omega | (simp only [List.length_append, rowsOf_len, erRows_len, List.length_cons, List.length_nil, marks_len, List.length_take, List.length_drop, List.length_set, List.length_map, List.length_range]; omega)) | (simp only [List.length_append, rowsOf_len, erRows_len, List.length_cons, List.length_nil, marks_len, List.length_take, List.length_drop, List.length_set, List.length_map, List.length_range]; omega) | kernel_rfl | (simp; done)); done)))
    refine e_loop _ _ _ _ _ _ _ _ (fun k : Nat => [.any, .ptr 0 0, .any, .own 1, .l 2 (erRows (l.drop (rnC l k)))] ++ List.replicate (Try.f26.ntmps - 5) .any) (fun k => [(0, .var 30 [.v (.int .i64 n), .v (.int .i64 room), .l 1 (rowsOfBytes xs), .l 2 (erRows l)]), (1, .sl 62 2 (rgRows (rnK l (rnC l k))))]) (fun k => k ≤ 2 ∧ rnJ l k) (fun k => 2 - k) 2 (fun k => by simp) ?_ fun k hk' => ?_
    · exact ⟨0, [(0, some _), (1, some _)], ⟨Nat.zero_le _, rnJ_zero l⟩, ⟨⟨trivial, ⟨rfl, rfl, rfl⟩, trivial, ⟨rfl, rfl, rfl⟩, ⟨rfl, rfl, rfl⟩, fitT_rep _ _ rfl⟩, ⟨.inl rfl, rfl, rfl, rfl, .inl rfl, rfl, rfl, rfl, trivial⟩, by simp [rn, hpAt]⟩, by simp [keepIds]⟩
    obtain ⟨hk1, hinv⟩ := hk'
    have hinv' := hinv
    obtain ⟨i1, i2, i3⟩ := hinv'
    have hdl : (l.drop (rnC l k)).length = l.length - (rnC l k) := List.length_drop ..
    by_cases hc : (rnC l k) < l.length
    · have e1 : (((l.drop (rnC l k)).length : Int) > 0) = True := eq_true (by omega)
      have e1' : (0 < ((l.drop (rnC l k)).length : Int)) = True := eq_true (by omega)
      by_cases hk : k < 2
      · have e2 : (((rnK l (rnC l k)).length : Int) < 2) = True := eq_true (by omega)
        obtain ⟨hJ, hlt, hnx⟩ := rnJ_next b6 hinv hk hc
        obtain ⟨p, hp⟩ : ∃ p, p = (l.getD (rnC l k) er0).p := ⟨_, rfl⟩
        have eg : l.getD (rnC l k) er0 = l[(rnC l k)] := by rw [List.getD_eq_getElem?_getD, List.getElem?_eq_getElem hc]; rfl
        have hrow : (erRows (l.drop (rnC l k))).getD 0 [] = [.v (.int .i64 p), .v (.int .u8 (l[(rnC l k)].b.toNat : Int))] := by
          rw [erRows_get (l.drop (rnC l k)) 0 (by omega), hp, eg]
          simp
        have hpb := b5 l[(rnC l k)] (List.getElem_mem hc)
        rw [hF, ← eg, ← hp] at hpb
        rw [← hp] at hnx
        obtain ⟨m, hm⟩ : ∃ m, m = runE p (l.drop (rnC l k)) := ⟨_, rfl⟩
        have hml : m ≤ (l.drop (rnC l k)).length := by rw [hm]; exact runE_le _ _
        have hCm : rnC l (k + 1) = (rnC l k) + m := by rw [rnC, ← hp, ← hm]
        have hD : (l.drop (rnC l k)).drop m = l.drop (rnC l (k + 1)) := by rw [List.drop_drop, hCm]
        have hrun : runE p (l.drop (rnC l k)) = m := hm.symm
        rw [hrun] at hnx
        have v1 : IntKind.i64.wrap (p + (m : Int)) = p + (m : Int) := wrap_id (by omega) (by omega)
        have happ : rgRows (rnK l (rnC l k)) ++ [[.v (.int .i64 p), .v (.int .i64 (p + (m : Int)))]] = rgRows (rnK l (rnC l (k + 1))) := by rw [hnx, ← rgRows_app]; rfl
        have e3 : ((0 : Int) < ((l.drop (rnC l k)).length : Int)) = True := eq_true (by omega)
        have htk : List.take (l.drop (rnC l k)).length (erRows (l.drop (rnC l k))) = erRows (l.drop (rnC l k)) := List.take_of_length_le (by rw [erRows_len]; exact Nat.le_refl _)
        simp (maxSteps := 3000000) only [Try.f26, iv6, g_earOk, g_inRow, erRows_len, rowsOf_len, rgRows_len, ersOf_rows, bytesOf_rows, erRows_drop, e1, e1', e2, hrow, hrun, v1, happ, htk, Int.toNat_natCast, List.append_eq, List.cons_append, List.nil_append, Bool.not_true, Bool.not_false, ↓reduceIte, Bool.false_eq_true, toI12, tYs, evL, implies_true, oMin, x_min3, oMin3, x_max, oMax, oCopy, oBin, oUn, oLoadKid, oStoreTree, oField, oExtract, oNil, oSliceQ, oSliceE, x_appendZ, oAppendZ, oSliceEnd, endMode, oLoadRow, takeCells, TS.atRow, TS.ex, treeMode, AV.isOwn, TK.isSl, nilTk, nilsB, oLenQ, oLen, nodupB, treeOf, kidAbs, kidRows, TK.isCell, D.toL, oLoad, oStore, oMake, oIndexAddr, ↓reduceIte, reduceCtorEq, Nat.reduceBEq, Nat.reduceAdd, Nat.reduceMul, Nat.reduceLT, Nat.reduceSub, Nat.reduceLeDiff, Nat.reduceEqDiff, Nat.reduceBneDiff, Int.reduceToNat, decide_eq_true_eq, decide_eq_false_iff_not, beq_iff_eq, Int.toNat_natCast, loopK_normal, loopK_exit, loopK_ret]
        clear happ htk
        (repeat (refine And.intro ?_ ?_; focus (((repeat' apply And.intro) <;> first | omega | exact rowsOf_w _ | exact erRows_w _ | exact ⟨_, rfl⟩ | (refine ⟨_, rfl, ?_⟩; first | omega | (simp only [List.length_append, rowsOf_len, erRows_len, List.length_cons, List.length_nil, marks_len, List.length_take, List.length_drop, List.length_set, List.length_map, List.length_range]; omega)) | (simp only [List.length_append, rowsOf_len, erRows_len, List.length_cons, List.length_nil, marks_len, List.length_take, List.length_drop, List.length_set, List.length_map, List.length_range]; omega) | kernel_rfl | (simp; done)); done)))
        exact ⟨k + 1, [(0, some 0), (1, some _)], ⟨by omega, hJ⟩, by omega, ⟨⟨trivial, ⟨rfl, rfl, rfl⟩, trivial, ⟨rfl, rfl, rfl⟩, ⟨congrArg (fun z => AV.l 2 (erRows z)) hD, rfl, rfl⟩, fitT_rep _ _ rfl⟩, ⟨.inl rfl, rfl, rfl, rfl, .inl rfl, rfl, rfl, rfl, trivial⟩, by simp [rn, hpAt]⟩, by simp [keepIds, rn]⟩
      · have e2 : (((rnK l (rnC l k)).length : Int) < 2) = False := eq_false (by omega)
        rw [rnJ_end hinv (.inr hk)]
        simp (maxSteps := 3000000) only [Try.f26, iv6, g_earOk, g_inRow, erRows_len, rowsOf_len, rgRows_len, ersOf_rows, bytesOf_rows, erRows_drop, e1, e1', e2, List.append_eq, List.cons_append, List.nil_append, Bool.not_true, Bool.not_false, ↓reduceIte, Bool.false_eq_true, toI12, tYs, evL, implies_true, oMin, x_min3, oMin3, x_max, oMax, oCopy, oBin, oUn, oLoadKid, oStoreTree, oField, oExtract, oNil, oSliceQ, oSliceE, x_appendZ, oAppendZ, oSliceEnd, endMode, oLoadRow, takeCells, TS.atRow, TS.ex, treeMode, AV.isOwn, TK.isSl, nilTk, nilsB, oLenQ, oLen, nodupB, treeOf, kidAbs, kidRows, TK.isCell, D.toL, oLoad, oStore, oMake, oIndexAddr, ↓reduceIte, reduceCtorEq, Nat.reduceBEq, Nat.reduceAdd, Nat.reduceMul, Nat.reduceLT, Nat.reduceSub, Nat.reduceLeDiff, Nat.reduceEqDiff, Nat.reduceBneDiff, Int.reduceToNat, decide_eq_true_eq, decide_eq_false_iff_not, beq_iff_eq, Int.toNat_natCast, loopK_normal, loopK_exit, loopK_ret]
        exact ⟨_, [(0, some _)], rfl, ⟨⟨⟨rfl, rfl, rfl⟩, trivial⟩, ⟨.inl rfl, rfl, rfl, rfl, trivial⟩, by simp [rn, hpAt]⟩⟩
    · have e1 : (((l.drop (rnC l k)).length : Int) > 0) = False := eq_false (by omega)
      rw [rnJ_end hinv (.inl (by omega))]
      simp (maxSteps := 3000000) only [Try.f26, iv6, g_earOk, g_inRow, erRows_len, rowsOf_len, rgRows_len, ersOf_rows, bytesOf_rows, erRows_drop, e1, List.append_eq, List.cons_append, List.nil_append, Bool.not_true, Bool.not_false, ↓reduceIte, Bool.false_eq_true, toI12, tYs, evL, implies_true, oMin, x_min3, oMin3, x_max, oMax, oCopy, oBin, oUn, oLoadKid, oStoreTree, oField, oExtract, oNil, oSliceQ, oSliceE, x_appendZ, oAppendZ, oSliceEnd, endMode, oLoadRow, takeCells, TS.atRow, TS.ex, treeMode, AV.isOwn, TK.isSl, nilTk, nilsB, oLenQ, oLen, nodupB, treeOf, kidAbs, kidRows, TK.isCell, D.toL, oLoad, oStore, oMake, oIndexAddr, ↓reduceIte, reduceCtorEq, Nat.reduceBEq, Nat.reduceAdd, Nat.reduceMul, Nat.reduceLT, Nat.reduceSub, Nat.reduceLeDiff, Nat.reduceEqDiff, Nat.reduceBneDiff, Int.reduceToNat, decide_eq_true_eq, decide_eq_false_iff_not, beq_iff_eq, Int.toNat_natCast, loopK_normal, loopK_exit, loopK_ret]
      exact ⟨_, [(0, some _)], rfl, ⟨⟨⟨rfl, rfl, rfl⟩, trivial⟩, ⟨.inl rfl, rfl, rfl, rfl, trivial⟩, by simp [rn, hpAt]⟩⟩
  · cases hg
end Go.Proofs.Ytkfjaeoehhakpaa
