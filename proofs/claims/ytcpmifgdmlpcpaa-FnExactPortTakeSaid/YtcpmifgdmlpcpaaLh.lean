import Derived.Test.YtcpmifgdmlpcpaaLg
set_option linter.unusedVariables false
set_option linter.unusedSimpArgs false
namespace Go.Proofs.Ytcpmifgdmlpcpaa
open Go.RowKit
set_option linter.unusedSimpArgs false
def mkMl (x : Ml) (c : Nat) : Ml := ⟨(c : Int), ((c + 1 : Nat) : Int), ((c + 2 : Nat) : Int), marks (c + 3) x.d.length⟩
def mlC : List Ml → Nat → Nat
  | [], c => c
  | x :: t, c => mlC t (c + 3 + x.d.length)
def mlL : List Ml → Nat → List Ml
  | [], _ => []
  | x :: t, c => mkMl x c :: mlL t (c + 3 + x.d.length)
theorem mlC_app : ∀ (a b : List Ml) (c : Nat), mlC (a ++ b) c = mlC b (mlC a c)
  | [], _, _ => rfl
  | x :: a, b, c => mlC_app a b _
theorem mlL_app : ∀ (a b : List Ml) (c : Nat), mlL (a ++ b) c = mlL a c ++ mlL b (mlC a c)
  | [], _, _ => rfl
  | x :: a, b, c => by simp only [List.cons_append, mlL, mlC, mlL_app a b]
theorem mlL_len : ∀ (a : List Ml) (c : Nat), (mlL a c).length = a.length
  | [], _ => rfl
  | x :: a, c => by simp only [mlL, List.length_cons, mlL_len a]
theorem mlC_eq : ∀ (a : List Ml) (c : Nat), mlC a c = c + 3 * a.length + sumM a
  | [], c => by simp [mlC, sumM]
  | x :: a, c => by
    rw [mlC, mlC_eq a]
    simp only [sumM, List.map_cons, List.sum_cons, List.length_cons]
    omega
def mlS2 (ps : List Ml) (c k : Nat) : List Ml := mlL (ps.take k) c ++ ps.drop k
theorem mlS2_len (ps : List Ml) (c k : Nat) : (mlS2 ps c k).length = ps.length := by
  rw [mlS2, List.length_append, mlL_len, ← List.length_append, List.take_append_drop]
theorem mlS2_at {ps : List Ml} {c k : Nat} (h : k < ps.length) : (mlS2 ps c k)[k]? = some ps[k] := by
  have e : (mlL (ps.take k) c).length = k := by rw [mlL_len, List.length_take]; omega
  rw [mlS2, List.getElem?_append_right (by omega), e, Nat.sub_self, List.getElem?_drop, Nat.add_zero, List.getElem?_eq_getElem h]
theorem mlS2_set {ps : List Ml} {c k : Nat} (h : k < ps.length) : (mlS2 ps c k).set k (mkMl ps[k] (mlC (ps.take k) c)) = mlS2 ps c (k + 1) := by
  have e : (mlL (ps.take k) c).length = k := by rw [mlL_len, List.length_take]; omega
  rw [mlS2, mlS2, List.set_append_right _ _ (by omega), e, Nat.sub_self, List.drop_eq_getElem_cons h, List.set_cons_zero, List.take_add_one, List.getElem?_eq_getElem h, mlL_app]
  simp [mlL]
theorem mlC_next {ps : List Ml} {c k : Nat} (h : k < ps.length) : mlC (ps.take (k + 1)) c = mlC (ps.take k) c + 3 + ps[k].d.length := by
  rw [List.take_add_one, List.getElem?_eq_getElem h, mlC_app]; rfl
theorem mlL_at {ps : List Ml} {c k : Nat} (h : k < ps.length) : (mlL ps c)[k]'(by rw [mlL_len]; exact h) = mkMl ps[k] (mlC (ps.take k) c) := by
  have e : mlL ps c = mlL (ps.take k) c ++ mkMl ps[k] (mlC (ps.take k) c) :: mlL (ps.drop (k + 1)) (mlC (ps.take k) c + 3 + ps[k].d.length) := by
    conv => lhs; rw [← List.take_append_drop k ps, List.drop_eq_getElem_cons h, mlL_app, mlL]
  have hl : (mlL (ps.take k) c).length = k := by rw [mlL_len, List.length_take]; omega
  simp only [e]
  rw [List.getElem_append_right (by omega)]
  simp [hl]
theorem sumM_mk : ∀ (ps : List Ml) (c : Nat), sumM (mlL ps c) = sumM ps
  | [], c => rfl
  | x :: t, c => by
    have h1 := sumM_mk t (c + 3 + x.d.length)
    simp only [mlL, sumM, List.map_cons, List.sum_cons, mkMl, marks_len] at h1 ⊢
    omega
theorem mlC_mk (ps : List Ml) (c : Nat) : mlC (mlL ps c) c = mlC ps c := by rw [mlC_eq, mlC_eq, mlL_len, sumM_mk]
theorem mlRow_mk (x : Ml) (C : Nat) : mlRow (mkMl x C) = [D.v (.int .i64 (C : Nat)), D.v (.int .i64 ((C + 1 : Nat) : Int)), D.v (.int .i64 ((C + 2 : Nat) : Int)), D.l 1 (rowsOfBytes (marks (C + 3) x.d.length))] := rfl
def g_markMailS : OC := fun args B0 => match args, B0 with
  | [.own r, .v (.int .i64 c)], [.tr .whole T sz cols rows] => some (r = 0 ∧ T = 27 ∧ sz = 4 ∧ cols = [.cell, .cell, .cell, .sl 5 1 [.cell]] ∧ (∃ ps, rows = mRows ps ∧ ps.length ≤ 1048577 ∧ sumM ps ≤ 1048577) ∧ 0 ≤ c ∧ c ≤ 549755813888,
      .v (.int .i64 (mlC (msOf rows) c.toNat : Nat)), [.tr .whole T sz cols (mRows (mlL (msOf rows) c.toNat))], [])
  | _, _ => none
def g_heldMailS : PC := fun args => match args with
  | [.l _ rows, .v (.int .i64 c)] => some ((∃ ps, rows = mRows (mlL ps c.toNat) ∧ ps.length ≤ 1048577 ∧ sumM ps ≤ 1048577) ∧ 0 ≤ c ∧ c ≤ 549755813888, .v (.int .i64 (mlC (msOf rows) c.toNat : Nat)), [])
  | _ => none
def mkgM : List (FuncId × Abs) := [(25, kidAbs g_markByteS)]
theorem mkgM_ok : ∀ p ∈ mkgM, CallOk Try.prog p.1 p.2 := by
  intro p hp
  simp only [mkgM, List.mem_cons, List.not_mem_nil, or_false] at hp
  rcases hp with rfl
  exact markByteS_ok.callK
set_option maxHeartbeats 1000000 in
set_option maxRecDepth 100000 in
theorem markMailS_ok : OwnOk Try.prog 24 g_markMailS := by
  refine OwnOk.of_vc (G := mkgM) mkgM_ok mixed Try.func24 (by kernel_rfl) rfl ?_
  intro args B0 cnd r B1 bs hg hc hlive
  unfold g_markMailS at hg
  split at hg
  · rename_i r c T sz cols rows
    cases hg
    obtain ⟨rfl, rfl, rfl, rfl, ⟨ms, rfl, hn, hs⟩, hc0, hc1⟩ := hc
    rw [msOf_rows]
    obtain ⟨c, rfl⟩ : ∃ n : Nat, c = (n : Int) := ⟨c.toNat, by omega⟩
    rw [Int.toNat_natCast]
    refine ⟨⟨by simp [likeBs, likeB, mRows_len, mlL_len], by simp [Blk.liveB, blkIds, AV.ids.idsL, AV.ids], by simp [AV.ids]⟩, _, rfl, fun w Z s vs h => h, ?_⟩
    clear hlive
    simp (maxSteps := 3000000) only [Try.f24, mkgM, tYs, evL, implies_true, oMin, x_max, oMax, oCopy, oBin, oUn, oLoadKid, oStoreTree, oField, oExtract, oNil, oSliceQ, oSliceE, x_appendZ, oAppendZ, oSliceEnd, endMode, oLoadRow, takeCells, TS.atRow, TS.ex, treeMode, AV.isOwn, TK.isSl, nilTk, nilsB, oLenQ, oLen, nodupB, treeOf, kidAbs, kidRows, TK.isCell, D.toL, oLoad, oStore, oMake, oIndexAddr, ↓reduceIte, reduceCtorEq, Nat.reduceBEq, Nat.reduceAdd, Nat.reduceMul, Nat.reduceLT, Nat.reduceSub, Nat.reduceLeDiff, Nat.reduceEqDiff, Nat.reduceBneDiff, Int.reduceToNat, decide_eq_true_eq, decide_eq_false_iff_not, beq_iff_eq, Int.toNat_natCast]
    refine e_loop _ _ _ _ _ _ _ _ (fun k : Nat => [.own 0, .v (.int .i64 (mlC (ms.take k) c : Nat)), .any, .any, .any, .v (.int .i64 (k : Int))] ++ List.replicate (Try.f24.ntmps - 6) .any) (fun k => [(0, .tr .whole 27 4 [.cell, .cell, .cell, .sl 5 1 [.cell]] (mRows (mlS2 ms c k)))]) (fun k => k ≤ ms.length) (fun k => ms.length - k) 1 (fun k => by simp) ?_ fun k hk' => ?_
    · exact ⟨0, [(0, some 0)], Nat.zero_le _, ⟨⟨⟨rfl, rfl, rfl⟩, ⟨rfl, rfl, rfl⟩, trivial, trivial, trivial, ⟨rfl, rfl, rfl⟩, fitT_rep _ _ rfl⟩, ⟨.inl rfl, rfl, rfl, rfl, trivial⟩, by simp [rn, hpAt]⟩, by simp [keepIds, rn]⟩
    have w2 : IntKind.i64.wrap ((k : Int) + 1) = ((k + 1 : Nat) : Int) := by rw [wrap_id] <;> omega
    by_cases hk : k < ms.length
    · have hrow := mRows_get ms k hk
      have hlt : ((k : Int) < (ms.length : Int)) = True := eq_true (by omega)
      have h0 : (0 ≤ (k : Int)) = True := eq_true (by omega)
      have hsl : (mRows (mlS2 ms c k)).length = ms.length := by rw [mRows_len, mlS2_len]
      have hrw : (mRows (mlS2 ms c k)).getD k [] = mlRow ms[k] := by
        rw [List.getD_eq_getElem?_getD, mRows, List.getElem?_map, mlS2_at hk]; rfl
      have hset : ∀ r : List D, ((mRows (mlS2 ms c k)).set k r).getD k [] = r := fun r => set_getD (by rw [hsl]; exact hk) r []
      have hCe := mlC_eq (ms.take k) c
      have hsk := sumM_mem (List.getElem_mem hk)
      have hCl := sumM_le ms k
      have hCt : (ms.take k).length = k := by rw [List.length_take]; omega
      rw [hCt] at hCe
      have hCn := mlC_next (c := c) hk
      have hms := mlS2_set (c := c) hk
      obtain ⟨C, hC⟩ : ∃ C, mlC (ms.take k) c = C := ⟨_, rfl⟩
      rw [hC] at hCe hCn hms ⊢
      have wc1 : IntKind.i64.wrap (((C : Nat) : Int) + 1) = ((C + 1 : Nat) : Int) := by rw [wrap_id] <;> omega
      have wc2 : IntKind.i64.wrap (((C + 1 : Nat) : Int) + 1) = ((C + 2 : Nat) : Int) := by rw [wrap_id] <;> omega
      have wc3 : IntKind.i64.wrap (((C + 2 : Nat) : Int) + 1) = ((C + 3 : Nat) : Int) := by rw [wrap_id] <;> omega
      simp (maxSteps := 3000000) only [Try.f24, mkgM, g_markByteS, hsl, hrw, hset, hlt, h0, List.set_set, List.length_set, wc1, wc2, wc3, rowsOf_len, mlRow, tYs, evL, implies_true, oMin, x_max, oMax, oCopy, oBin, oUn, oLoadKid, oStoreTree, oField, oExtract, oNil, oSliceQ, oSliceE, x_appendZ, oAppendZ, oSliceEnd, endMode, oLoadRow, takeCells, TS.atRow, TS.ex, treeMode, AV.isOwn, TK.isSl, nilTk, nilsB, oLenQ, oLen, nodupB, treeOf, kidAbs, kidRows, TK.isCell, D.toL, oLoad, oStore, oMake, oIndexAddr, ↓reduceIte, reduceCtorEq, Nat.reduceBEq, Nat.reduceAdd, Nat.reduceMul, Nat.reduceLT, Nat.reduceSub, Nat.reduceLeDiff, Nat.reduceEqDiff, Nat.reduceBneDiff, Int.reduceToNat, decide_eq_true_eq, decide_eq_false_iff_not, beq_iff_eq, Int.toNat_natCast, loopK_normal, loopK_exit, loopK_ret, w2]
      repeat' first
        | refine And.intro (by omega) ?_
        | refine And.intro ⟨⟨⟨_, rfl⟩, by omega, by omega, by omega⟩, rowsOf_flat _⟩ ?_
      have hfin : (mRows (mlS2 ms c k)).set k [D.v (.int .i64 (C : Nat)), D.v (.int .i64 ((C + 1 : Nat) : Int)), D.v (.int .i64 ((C + 2 : Nat) : Int)), D.l 1 (rowsOfBytes (marks (C + 3) ms[k].d.length))] = mRows (mlS2 ms c (k + 1)) := by
        rw [← hms, mRows, mRows, List.map_set]; rfl
      rw [hfin]
      exact ⟨k + 1, [(0, some 0)], by omega, by omega, ⟨⟨⟨rfl, rfl, rfl⟩, ⟨congrArg (fun z : Int => AV.v (Value.int .i64 z)) (by rw [hCn]; omega), rfl, rfl⟩, trivial, trivial, trivial, ⟨rfl, rfl, rfl⟩, fitT_rep _ _ rfl⟩, ⟨.inl rfl, rfl, rfl, rfl, trivial⟩, by simp [rn, hpAt]⟩, by simp [keepIds, rn]⟩
    · have hlt : ((k : Int) < (ms.length : Int)) = False := eq_false (by omega)
      simp (maxSteps := 3000000) only [Try.f24, mkgM, mRows_len, mlS2_len, hlt, tYs, evL, implies_true, oMin, x_max, oMax, oCopy, oBin, oUn, oLoadKid, oStoreTree, oField, oExtract, oNil, oSliceQ, oSliceE, x_appendZ, oAppendZ, oSliceEnd, endMode, oLoadRow, takeCells, TS.atRow, TS.ex, treeMode, AV.isOwn, TK.isSl, nilTk, nilsB, oLenQ, oLen, nodupB, treeOf, kidAbs, kidRows, TK.isCell, D.toL, oLoad, oStore, oMake, oIndexAddr, ↓reduceIte, reduceCtorEq, Nat.reduceBEq, Nat.reduceAdd, Nat.reduceMul, Nat.reduceLT, Nat.reduceSub, Nat.reduceLeDiff, Nat.reduceEqDiff, Nat.reduceBneDiff, Int.reduceToNat, decide_eq_true_eq, decide_eq_false_iff_not, beq_iff_eq, Int.toNat_natCast, loopK_normal, loopK_exit, loopK_ret, w2]
      obtain rfl : k = ms.length := by omega
      rw [mlS2, List.take_length, List.drop_length, List.append_nil]
      exact ⟨[(0, some 0)], ⟨⟨⟨rfl, rfl, rfl⟩, trivial⟩, ⟨.inl rfl, rfl, rfl, rfl, trivial⟩, by simp [rn, hpAt]⟩, by simp [keepIds, rn]⟩
  · cases hg
def hdgM : List (FuncId × Abs) := [(27, pureAbs g_heldByteS)]
theorem hdgM_ok : ∀ p ∈ hdgM, CallOk Try.prog p.1 p.2 := by
  intro p hp
  simp only [hdgM, List.mem_cons, List.not_mem_nil, or_false] at hp
  rcases hp with rfl
  · exact heldByteS_ok.call
set_option maxHeartbeats 2000000 in
set_option maxRecDepth 100000 in
theorem heldMailS_ok : PureOk Try.prog 26 g_heldMailS := by
  refine PureOk.of_vc (G := hdgM) hdgM_ok mixed Try.func26 (by kernel_rfl) rfl ?_
  intro args cnd r bs hg hc
  unfold g_heldMailS at hg
  split at hg
  · rename_i sz rows c
    cases hg
    obtain ⟨⟨ms, rfl, hn, hs⟩, hc0, hc1⟩ := hc
    obtain ⟨c, rfl⟩ : ∃ n : Nat, c = (n : Int) := ⟨c.toNat, by omega⟩
    rw [Int.toNat_natCast, msOf_rows, mlC_mk]
    refine ⟨⟨rfl, by simp, by simp [AV.ids, AV.ids.idsL]⟩, [.l 4 (mRows (mlL ms c)), .v (.int .i64 (c : Int))], rfl, fun w vs h => CvL.ok (.cons (.l _ _ _ (mRows_w _)) (.cons (.refl _) .nil)) h, ?_⟩
    simp (maxSteps := 3000000) only [Try.f26, hdgM, mRows_len, mlL_len, tYs, evL, implies_true, oMin, x_max, oMax, oCopy, oBin, oUn, oLoadKid, oStoreTree, oField, oExtract, oNil, oSliceQ, oSliceE, x_appendZ, oAppendZ, oSliceEnd, endMode, oLoadRow, takeCells, TS.atRow, TS.ex, treeMode, AV.isOwn, TK.isSl, nilTk, nilsB, oLenQ, oLen, nodupB, treeOf, kidAbs, kidRows, TK.isCell, D.toL, oLoad, oStore, oMake, oIndexAddr, ↓reduceIte, reduceCtorEq, Nat.reduceBEq, Nat.reduceAdd, Nat.reduceMul, Nat.reduceLT, Nat.reduceSub, Nat.reduceLeDiff, Nat.reduceEqDiff, Nat.reduceBneDiff, Int.reduceToNat, decide_eq_true_eq, decide_eq_false_iff_not, beq_iff_eq, Int.toNat_natCast]
    refine e_loop _ _ _ _ _ _ _ _ (fun k : Nat => [.l 4 (mRows (mlL ms c)), .v (.int .i64 (mlC (ms.take k) c : Nat)), .any, .any, .any, .v (.int .i64 (k : Int))] ++ List.replicate (Try.f26.ntmps - 6) .any) (fun k => []) (fun k => k ≤ ms.length) (fun k => ms.length - k) 0 (fun k => by simp) ?_ fun k hk' => ?_
    · exact ⟨0, [], Nat.zero_le _, ⟨⟨⟨rfl, rfl, rfl⟩, ⟨rfl, rfl, rfl⟩, trivial, trivial, trivial, ⟨rfl, rfl, rfl⟩, fitT_rep _ _ rfl⟩, trivial, by simp [rn, hpAt]⟩, by simp [keepIds]⟩
    have w2 : IntKind.i64.wrap ((k : Int) + 1) = ((k + 1 : Nat) : Int) := by rw [wrap_id] <;> omega
    by_cases hk : k < ms.length
    · have hrow : (mRows (mlL ms c)).getD k [] = mlRow (mkMl ms[k] (mlC (ms.take k) c)) := by
        rw [List.getD_eq_getElem?_getD, mRows, List.getElem?_map, List.getElem?_eq_getElem (by rw [mlL_len]; exact hk), mlL_at hk]; rfl
      rw [mlRow_mk] at hrow
      have hlt : ((k : Int) < (ms.length : Int)) = True := eq_true (by omega)
      have h0 : (0 ≤ (k : Int)) = True := eq_true (by omega)
      have hCe := mlC_eq (ms.take k) c
      have hsk := sumM_mem (List.getElem_mem hk)
      have hCl := sumM_le ms k
      have hCt : (ms.take k).length = k := by rw [List.length_take]; omega
      rw [hCt] at hCe
      have hCn := mlC_next (c := c) hk
      obtain ⟨C, hC⟩ : ∃ C, mlC (ms.take k) c = C := ⟨_, rfl⟩
      rw [hC] at hCe hCn hrow ⊢
      have wc1 : IntKind.i64.wrap (((C : Nat) : Int) + 1) = ((C + 1 : Nat) : Int) := by rw [wrap_id] <;> omega
      have wc2 : IntKind.i64.wrap (((C + 1 : Nat) : Int) + 1) = ((C + 2 : Nat) : Int) := by rw [wrap_id] <;> omega
      have wc3 : IntKind.i64.wrap (((C + 2 : Nat) : Int) + 1) = ((C + 3 : Nat) : Int) := by rw [wrap_id] <;> omega
      have nb0 : ((((C : Nat) : Int)) != (((C : Nat) : Int))) = false := by simp
      have nb1 : ((((C + 1 : Nat) : Int)) != (((C + 1 : Nat) : Int))) = false := by simp
      have nb2 : ((((C + 2 : Nat) : Int)) != (((C + 2 : Nat) : Int))) = false := by simp
      simp (maxSteps := 3000000) only [Try.f26, hdgM, g_heldByteS, mRows_len, mlL_len, rowsOf_len, marks_len, bytesOf_rows, hrow, hlt, h0, D.toI, D.toL, wc1, wc2, wc3, nb0, nb1, nb2, tYs, evL, implies_true, oMin, x_max, oMax, oCopy, oBin, oUn, oLoadKid, oStoreTree, oField, oExtract, oNil, oSliceQ, oSliceE, x_appendZ, oAppendZ, oSliceEnd, endMode, oLoadRow, takeCells, TS.atRow, TS.ex, treeMode, AV.isOwn, TK.isSl, nilTk, nilsB, oLenQ, oLen, nodupB, treeOf, kidAbs, kidRows, TK.isCell, D.toL, oLoad, oStore, oMake, oIndexAddr, ↓reduceIte, reduceCtorEq, Nat.reduceBEq, Nat.reduceAdd, Nat.reduceMul, Nat.reduceLT, Nat.reduceSub, Nat.reduceLeDiff, Nat.reduceEqDiff, Nat.reduceBneDiff, Int.reduceToNat, decide_eq_true_eq, decide_eq_false_iff_not, beq_iff_eq, Int.toNat_natCast, loopK_normal, loopK_exit, loopK_ret, w2]
      refine ⟨⟨by omega, by omega, by omega⟩, ?_⟩
      rw [if_neg (by omega)]
      exact ⟨k + 1, [], by omega, by omega, ⟨⟨⟨rfl, rfl, rfl⟩, ⟨congrArg (fun z : Int => AV.v (Value.int .i64 z)) (by rw [hCn]; omega), rfl, rfl⟩, trivial, trivial, trivial, ⟨rfl, rfl, rfl⟩, fitT_rep _ _ rfl⟩, trivial, by simp [rn, hpAt]⟩, by simp [keepIds]⟩
    · have hlt : ((k : Int) < (ms.length : Int)) = False := eq_false (by omega)
      simp (maxSteps := 3000000) only [Try.f26, hdgM, mRows_len, mlL_len, hlt, tYs, evL, implies_true, oMin, x_max, oMax, oCopy, oBin, oUn, oLoadKid, oStoreTree, oField, oExtract, oNil, oSliceQ, oSliceE, x_appendZ, oAppendZ, oSliceEnd, endMode, oLoadRow, takeCells, TS.atRow, TS.ex, treeMode, AV.isOwn, TK.isSl, nilTk, nilsB, oLenQ, oLen, nodupB, treeOf, kidAbs, kidRows, TK.isCell, D.toL, oLoad, oStore, oMake, oIndexAddr, ↓reduceIte, reduceCtorEq, Nat.reduceBEq, Nat.reduceAdd, Nat.reduceMul, Nat.reduceLT, Nat.reduceSub, Nat.reduceLeDiff, Nat.reduceEqDiff, Nat.reduceBneDiff, Int.reduceToNat, decide_eq_true_eq, decide_eq_false_iff_not, beq_iff_eq, Int.toNat_natCast, loopK_normal, loopK_exit, loopK_ret, w2]
      obtain rfl : k = ms.length := by omega
      rw [List.take_length]
      exact ⟨_, [], rfl, ⟨⟨⟨rfl, rfl, rfl⟩, trivial⟩, trivial, by simp [rn, hpAt]⟩⟩
  · cases hg
def poMk (x : Po) (c : Nat) : Po := ⟨(c : Int), mlL x.row (c + 1)⟩
def poC : List Po → Nat → Nat
  | [], c => c
  | x :: t, c => poC t (mlC x.row (c + 1))
def poL : List Po → Nat → List Po
  | [], _ => []
  | x :: t, c => poMk x c :: poL t (mlC x.row (c + 1))
theorem poC_app : ∀ (a b : List Po) (c : Nat), poC (a ++ b) c = poC b (poC a c)
  | [], _, _ => rfl
  | x :: a, b, c => poC_app a b _
theorem poL_app : ∀ (a b : List Po) (c : Nat), poL (a ++ b) c = poL a c ++ poL b (poC a c)
  | [], _, _ => rfl
  | x :: a, b, c => by simp only [List.cons_append, poL, poC, poL_app a b]
theorem poL_len : ∀ (a : List Po) (c : Nat), (poL a c).length = a.length
  | [], c => rfl
  | x :: a, c => by simp only [poL, List.length_cons, poL_len a]
theorem poC_eq : ∀ (a : List Po) (c : Nat), poC a c = c + a.length + sumO a
  | [], c => by simp [poC, sumO]
  | x :: a, c => by
    rw [poC, poC_eq a, mlC_eq]
    simp only [sumO, List.map_cons, List.sum_cons, List.length_cons]
    omega
def poO (l : List Po) (c k : Nat) : List Po := poL (l.take k) c ++ l.drop k
theorem poO_len (l : List Po) (c k : Nat) : (poO l c k).length = l.length := by
  rw [poO, List.length_append, poL_len, ← List.length_append, List.take_append_drop]
theorem poO_at {l : List Po} {c k : Nat} (h : k < l.length) : (poO l c k)[k]? = some l[k] := by
  have e : (poL (l.take k) c).length = k := by rw [poL_len, List.length_take]; omega
  rw [poO, List.getElem?_append_right (by omega), e, Nat.sub_self, List.getElem?_drop, Nat.add_zero, List.getElem?_eq_getElem h]
theorem poO_set {l : List Po} {c k : Nat} (h : k < l.length) : (poO l c k).set k (poMk l[k] (poC (l.take k) c)) = poO l c (k + 1) := by
  have e : (poL (l.take k) c).length = k := by rw [poL_len, List.length_take]; omega
  rw [poO, poO, List.set_append_right _ _ (by omega), e, Nat.sub_self, List.drop_eq_getElem_cons h, List.set_cons_zero, List.take_add_one, List.getElem?_eq_getElem h, poL_app]
  simp [poL]
theorem poC_next {l : List Po} {c k : Nat} (h : k < l.length) : poC (l.take (k + 1)) c = mlC l[k].row (poC (l.take k) c + 1) := by
  rw [List.take_add_one, List.getElem?_eq_getElem h, poC_app]; rfl
theorem poRows_at {l : List Po} {k : Nat} {x : Po} (h : l[k]? = some x) : (poRows l).getD k [] = [D.v (.int .i64 x.n), D.l 4 (mRows x.row)] := by
  rw [List.getD_eq_getElem?_getD, poRows, List.getElem?_map, h]; rfl
theorem poL_at {l : List Po} {c k : Nat} (h : k < l.length) : (poL l c)[k]? = some (poMk l[k] (poC (l.take k) c)) := by
  have e : poL l c = poL (l.take k) c ++ poMk l[k] (poC (l.take k) c) :: poL (l.drop (k + 1)) (mlC l[k].row (poC (l.take k) c + 1)) := by
    conv => lhs; rw [← List.take_append_drop k l, List.drop_eq_getElem_cons h, poL_app, poL]
  have hl : (poL (l.take k) c).length = k := by rw [poL_len, List.length_take]; omega
  rw [e, List.getElem?_append_right (by omega), hl, Nat.sub_self]; rfl
theorem sumO_mk : ∀ (l : List Po) (c : Nat), sumO (poL l c) = sumO l
  | [], c => rfl
  | x :: t, c => by
    have h1 := sumO_mk t (mlC x.row (c + 1))
    have h2 := sumM_mk x.row (c + 1)
    simp only [poL, sumO, List.map_cons, List.sum_cons, poMk, mlL_len, h2] at h1 ⊢
    omega
theorem poC_mk (l : List Po) (c : Nat) : poC (poL l c) c = poC l c := by rw [poC_eq, poC_eq, poL_len, sumO_mk]
def poGood (l : List Po) : Prop := l.length ≤ 1048577 ∧ sumO l ≤ 67108864 ∧ ∀ x ∈ l, x.row.length ≤ 1048577 ∧ sumM x.row ≤ 1048577
def g_markPortS : OC := fun args B0 => match args, B0 with
  | [.own r, .v (.int .i64 c)], [.tr .whole T sz cols rows] => some (r = 0 ∧ T = 44 ∧ sz = 2 ∧ cols = [.cell, .sl 27 4 [.cell, .cell, .cell, .sl 5 1 [.cell]]] ∧ (∃ l, rows = poRows l ∧ poGood l) ∧ 0 ≤ c ∧ c ≤ 274877906944,
      .v (.int .i64 (poC (posOf rows) c.toNat : Nat)), [.tr .whole T sz cols (poRows (poL (posOf rows) c.toNat))], [])
  | _, _ => none
def g_heldPortS : PC := fun args => match args with
  | [.l _ rows, .v (.int .i64 c)] => some ((∃ l, rows = poRows (poL l c.toNat) ∧ poGood l) ∧ 0 ≤ c ∧ c ≤ 274877906944, .v (.int .i64 (poC (posOf rows) c.toNat : Nat)), [])
  | _ => none
def mpgO : List (FuncId × Abs) := [(24, kidAbs g_markMailS)]
theorem mpgO_ok : ∀ p ∈ mpgO, CallOk Try.prog p.1 p.2 := by
  intro p hp
  simp only [mpgO, List.mem_cons, List.not_mem_nil, or_false] at hp
  rcases hp with rfl
  exact markMailS_ok.callK
set_option maxHeartbeats 4000000 in
set_option maxRecDepth 100000 in
theorem markPortS_ok : OwnOk Try.prog 10 g_markPortS := by
  refine OwnOk.of_vc (G := mpgO) mpgO_ok mixed Try.func10 (by kernel_rfl) rfl ?_
  intro args B0 cnd r B1 bs hg hc hlive
  unfold g_markPortS at hg
  split at hg
  · rename_i r c T sz cols rows
    cases hg
    obtain ⟨rfl, rfl, rfl, rfl, ⟨l, rfl, hn, hsm, hb⟩, hc0, hc1⟩ := hc
    rw [posOf_rows]
    obtain ⟨c, rfl⟩ : ∃ n : Nat, c = (n : Int) := ⟨c.toNat, by omega⟩
    rw [Int.toNat_natCast]
    refine ⟨⟨by simp [likeBs, likeB, poRows_len, poL_len], by simp [Blk.liveB, blkIds, AV.ids.idsL, AV.ids], by simp [AV.ids]⟩, _, rfl, fun w Z s vs h => h, ?_⟩
    clear hlive
    simp (maxSteps := 3000000) only [Try.f10, mpgO, tYs, evL, implies_true, oMin, x_max, oMax, oCopy, oBin, oUn, oLoadKid, oStoreTree, oField, oExtract, oNil, oSliceQ, oSliceE, x_appendZ, oAppendZ, oSliceEnd, endMode, oLoadRow, takeCells, TS.atRow, TS.ex, treeMode, AV.isOwn, TK.isSl, nilTk, nilsB, oLenQ, oLen, nodupB, treeOf, kidAbs, kidRows, TK.isCell, D.toL, oLoad, oStore, oMake, oIndexAddr, ↓reduceIte, reduceCtorEq, Nat.reduceBEq, Nat.reduceAdd, Nat.reduceMul, Nat.reduceLT, Nat.reduceSub, Nat.reduceLeDiff, Nat.reduceEqDiff, Nat.reduceBneDiff, Int.reduceToNat, decide_eq_true_eq, decide_eq_false_iff_not, beq_iff_eq, Int.toNat_natCast]
    refine e_loop _ _ _ _ _ _ _ _ (fun k : Nat => [.own 0, .v (.int .i64 (poC (l.take k) c : Nat)), .any, .any, .any, .v (.int .i64 (k : Int))] ++ List.replicate (Try.f10.ntmps - 6) .any) (fun k => [(0, .tr .whole 44 2 [.cell, .sl 27 4 [.cell, .cell, .cell, .sl 5 1 [.cell]]] (poRows (poO l c k)))]) (fun k => k ≤ l.length) (fun k => l.length - k) 1 (fun k => by simp) ?_ fun k hk' => ?_
    · exact ⟨0, [(0, some 0)], Nat.zero_le _, ⟨⟨⟨rfl, rfl, rfl⟩, ⟨rfl, rfl, rfl⟩, trivial, trivial, trivial, ⟨rfl, rfl, rfl⟩, fitT_rep _ _ rfl⟩, ⟨.inl rfl, rfl, rfl, rfl, trivial⟩, by simp [rn, hpAt]⟩, by simp [keepIds, rn]⟩
    have w2 : IntKind.i64.wrap ((k : Int) + 1) = ((k + 1 : Nat) : Int) := by rw [wrap_id] <;> omega
    have hsl : (poRows (poO l c k)).length = l.length := by rw [poRows_len, poO_len]
    by_cases hk : k < l.length
    · have hlt : ((k : Int) < (l.length : Int)) = True := eq_true (by omega)
      have h0 : (0 ≤ (k : Int)) = True := eq_true (by omega)
      have hrw := poRows_at (poO_at (c := c) hk)
      have hset : ∀ r : List D, ((poRows (poO l c k)).set k r).getD k [] = r := fun r => set_getD (by rw [hsl]; omega) r []
      have hCe := poC_eq (l.take k) c
      have hsk := sumO_mem (List.getElem_mem hk)
      have hCl := sumO_take l k
      have hCt : (l.take k).length = k := by rw [List.length_take]; omega
      rw [hCt] at hCe
      have hCn := poC_next (c := c) hk
      have hms := poO_set (c := c) hk
      obtain ⟨C, hC⟩ : ∃ C, poC (l.take k) c = C := ⟨_, rfl⟩
      rw [hC] at hCe hCn hms ⊢
      have hmk := mlC_eq l[k].row (C + 1)
      have wc1 : IntKind.i64.wrap (((C : Nat) : Int) + 1) = ((C + 1 : Nat) : Int) := by rw [wrap_id] <;> omega
      have hex : (∃ ps, mRows l[k].row = mRows ps ∧ ps.length ≤ 1048577 ∧ sumM ps ≤ 1048577) := ⟨_, rfl, hb _ (List.getElem_mem hk)⟩
      have hfin : (poRows (poO l c k)).set k [D.v (.int .i64 (C : Nat)), D.l 4 (mRows (mlL l[k].row (C + 1)))] = poRows (poO l c (k + 1)) := by
        rw [← hms, ← poRows_set]; rfl
      simp (maxSteps := 3000000) only [Try.f10, mpgO, g_markMailS, hsl, hrw, hset, hlt, h0, List.set_set, List.length_set, wc1, mRows_len, msOf_rows, hfin, tYs, evL, implies_true, oMin, x_max, oMax, oCopy, oBin, oUn, oLoadKid, oStoreTree, oField, oExtract, oNil, oSliceQ, oSliceE, x_appendZ, oAppendZ, oSliceEnd, endMode, oLoadRow, takeCells, TS.atRow, TS.ex, treeMode, AV.isOwn, TK.isSl, nilTk, nilsB, oLenQ, oLen, nodupB, treeOf, kidAbs, kidRows, TK.isCell, D.toL, oLoad, oStore, oMake, oIndexAddr, ↓reduceIte, reduceCtorEq, Nat.reduceBEq, Nat.reduceAdd, Nat.reduceMul, Nat.reduceLT, Nat.reduceSub, Nat.reduceLeDiff, Nat.reduceEqDiff, Nat.reduceBneDiff, Int.reduceToNat, decide_eq_true_eq, decide_eq_false_iff_not, beq_iff_eq, Int.toNat_natCast, loopK_normal, loopK_exit, loopK_ret, w2]
      repeat' first
        | refine And.intro (by omega) ?_
        | refine And.intro ⟨⟨hex, by omega, by omega⟩, trivial⟩ ?_
        | refine And.intro ⟨hex, by omega, by omega⟩ ?_
        | refine And.intro (by kernel_rfl) ?_
      exact ⟨k + 1, [(0, some 0)], by omega, by omega, ⟨⟨⟨rfl, rfl, rfl⟩, ⟨congrArg (fun z : Int => AV.v (Value.int .i64 z)) (by rw [hCn]), rfl, rfl⟩, trivial, trivial, trivial, ⟨rfl, rfl, rfl⟩, fitT_rep _ _ rfl⟩, ⟨.inl rfl, rfl, rfl, rfl, trivial⟩, by simp [rn, hpAt]⟩, by simp [keepIds, rn]⟩
    · have hlt : ((k : Int) < (l.length : Int)) = False := eq_false (by omega)
      simp (maxSteps := 3000000) only [Try.f10, mpgO, hsl, hlt, tYs, evL, implies_true, oMin, x_max, oMax, oCopy, oBin, oUn, oLoadKid, oStoreTree, oField, oExtract, oNil, oSliceQ, oSliceE, x_appendZ, oAppendZ, oSliceEnd, endMode, oLoadRow, takeCells, TS.atRow, TS.ex, treeMode, AV.isOwn, TK.isSl, nilTk, nilsB, oLenQ, oLen, nodupB, treeOf, kidAbs, kidRows, TK.isCell, D.toL, oLoad, oStore, oMake, oIndexAddr, ↓reduceIte, reduceCtorEq, Nat.reduceBEq, Nat.reduceAdd, Nat.reduceMul, Nat.reduceLT, Nat.reduceSub, Nat.reduceLeDiff, Nat.reduceEqDiff, Nat.reduceBneDiff, Int.reduceToNat, decide_eq_true_eq, decide_eq_false_iff_not, beq_iff_eq, Int.toNat_natCast, loopK_normal, loopK_exit, loopK_ret, w2]
      obtain rfl : k = l.length := by omega
      rw [poO, List.take_length, List.drop_length, List.append_nil]
      exact ⟨[(0, some 0)], ⟨⟨⟨rfl, rfl, rfl⟩, trivial⟩, ⟨.inl rfl, rfl, rfl, rfl, trivial⟩, by simp [rn, hpAt]⟩, by simp [keepIds, rn]⟩
  · cases hg
def hpgO : List (FuncId × Abs) := [(26, pureAbs g_heldMailS)]
theorem hpgO_ok : ∀ p ∈ hpgO, CallOk Try.prog p.1 p.2 := by
  intro p hp
  simp only [hpgO, List.mem_cons, List.not_mem_nil, or_false] at hp
  rcases hp with rfl
  · exact heldMailS_ok.call
set_option maxHeartbeats 1000000 in
set_option maxRecDepth 100000 in
theorem heldPortS_ok : PureOk Try.prog 12 g_heldPortS := by
  refine PureOk.of_vc (G := hpgO) hpgO_ok mixed Try.func12 (by kernel_rfl) rfl ?_
  intro args cnd r bs hg hc
  unfold g_heldPortS at hg
  split at hg
  · rename_i sz rows c
    cases hg
    obtain ⟨⟨l, rfl, hn, hsm, hb⟩, hc0, hc1⟩ := hc
    obtain ⟨c, rfl⟩ : ∃ n : Nat, c = (n : Int) := ⟨c.toNat, by omega⟩
    rw [Int.toNat_natCast, posOf_rows, poC_mk]
    refine ⟨⟨rfl, by simp, by simp [AV.ids, AV.ids.idsL]⟩, [.l 2 (poRows (poL l c)), .v (.int .i64 (c : Int))], rfl, fun w vs h => CvL.ok (.cons (.l _ _ _ (poRows_w _)) (.cons (.refl _) .nil)) h, ?_⟩
    simp (maxSteps := 3000000) only [Try.f12, hpgO, poRows_len, poL_len, tYs, evL, implies_true, oMin, x_max, oMax, oCopy, oBin, oUn, oLoadKid, oStoreTree, oField, oExtract, oNil, oSliceQ, oSliceE, x_appendZ, oAppendZ, oSliceEnd, endMode, oLoadRow, takeCells, TS.atRow, TS.ex, treeMode, AV.isOwn, TK.isSl, nilTk, nilsB, oLenQ, oLen, nodupB, treeOf, kidAbs, kidRows, TK.isCell, D.toL, oLoad, oStore, oMake, oIndexAddr, ↓reduceIte, reduceCtorEq, Nat.reduceBEq, Nat.reduceAdd, Nat.reduceMul, Nat.reduceLT, Nat.reduceSub, Nat.reduceLeDiff, Nat.reduceEqDiff, Nat.reduceBneDiff, Int.reduceToNat, decide_eq_true_eq, decide_eq_false_iff_not, beq_iff_eq, Int.toNat_natCast]
    refine e_loop _ _ _ _ _ _ _ _ (fun k : Nat => [.l 2 (poRows (poL l c)), .v (.int .i64 (poC (l.take k) c : Nat)), .any, .any, .any, .v (.int .i64 (k : Int))] ++ List.replicate (Try.f12.ntmps - 6) .any) (fun k => []) (fun k => k ≤ l.length) (fun k => l.length - k) 0 (fun k => by simp) ?_ fun k hk' => ?_
    · exact ⟨0, [], Nat.zero_le _, ⟨⟨⟨rfl, rfl, rfl⟩, ⟨rfl, rfl, rfl⟩, trivial, trivial, trivial, ⟨rfl, rfl, rfl⟩, fitT_rep _ _ rfl⟩, trivial, by simp [rn, hpAt]⟩, by simp [keepIds]⟩
    have w2 : IntKind.i64.wrap ((k : Int) + 1) = ((k + 1 : Nat) : Int) := by rw [wrap_id] <;> omega
    by_cases hk : k < l.length
    · have hlt : ((k : Int) < (l.length : Int)) = True := eq_true (by omega)
      have h0 : (0 ≤ (k : Int)) = True := eq_true (by omega)
      have hrow := poRows_at (poL_at (c := c) hk)
      have hCe := poC_eq (l.take k) c
      have hsk := sumO_mem (List.getElem_mem hk)
      have hCl := sumO_take l k
      have hCt : (l.take k).length = k := by rw [List.length_take]; omega
      rw [hCt] at hCe
      have hCn := poC_next (c := c) hk
      obtain ⟨C, hC⟩ : ∃ C, poC (l.take k) c = C := ⟨_, rfl⟩
      rw [hC] at hCe hCn hrow ⊢
      simp only [poMk] at hrow
      have hmk := mlC_eq l[k].row (C + 1)
      have hbk := hb _ (List.getElem_mem hk)
      have hex : (∃ ps, mRows (mlL l[k].row (C + 1)) = mRows (mlL ps (C + 1)) ∧ ps.length ≤ 1048577 ∧ sumM ps ≤ 1048577) := ⟨_, rfl, hbk⟩
      have wc1 : IntKind.i64.wrap (((C : Nat) : Int) + 1) = ((C + 1 : Nat) : Int) := by rw [wrap_id] <;> omega
      have nb : (((C : Nat) : Int) != ((C : Nat) : Int)) = false := by simp
      simp (maxSteps := 3000000) only [Try.f12, hpgO, g_heldMailS, poRows_len, poL_len, hrow, hlt, h0, wc1, nb, msOf_rows, mlC_mk, D.toI, D.toL, tYs, evL, implies_true, oMin, x_max, oMax, oCopy, oBin, oUn, oLoadKid, oStoreTree, oField, oExtract, oNil, oSliceQ, oSliceE, x_appendZ, oAppendZ, oSliceEnd, endMode, oLoadRow, takeCells, TS.atRow, TS.ex, treeMode, AV.isOwn, TK.isSl, nilTk, nilsB, oLenQ, oLen, nodupB, treeOf, kidAbs, kidRows, TK.isCell, D.toL, oLoad, oStore, oMake, oIndexAddr, ↓reduceIte, reduceCtorEq, Nat.reduceBEq, Nat.reduceAdd, Nat.reduceMul, Nat.reduceLT, Nat.reduceSub, Nat.reduceLeDiff, Nat.reduceEqDiff, Nat.reduceBneDiff, Int.reduceToNat, decide_eq_true_eq, decide_eq_false_iff_not, beq_iff_eq, Int.toNat_natCast, loopK_normal, loopK_exit, loopK_ret, w2]
      refine ⟨⟨hex, by omega, by omega⟩, ?_⟩
      rw [if_neg (by omega)]
      exact ⟨k + 1, [], by omega, by omega, ⟨⟨⟨rfl, rfl, rfl⟩, ⟨congrArg (fun z : Int => AV.v (Value.int .i64 z)) (by rw [hCn]), rfl, rfl⟩, trivial, trivial, trivial, ⟨rfl, rfl, rfl⟩, fitT_rep _ _ rfl⟩, trivial, by simp [rn, hpAt]⟩, by simp [keepIds]⟩
    · have hlt : ((k : Int) < (l.length : Int)) = False := eq_false (by omega)
      simp (maxSteps := 3000000) only [Try.f12, hpgO, poRows_len, poL_len, hlt, tYs, evL, implies_true, oMin, x_max, oMax, oCopy, oBin, oUn, oLoadKid, oStoreTree, oField, oExtract, oNil, oSliceQ, oSliceE, x_appendZ, oAppendZ, oSliceEnd, endMode, oLoadRow, takeCells, TS.atRow, TS.ex, treeMode, AV.isOwn, TK.isSl, nilTk, nilsB, oLenQ, oLen, nodupB, treeOf, kidAbs, kidRows, TK.isCell, D.toL, oLoad, oStore, oMake, oIndexAddr, ↓reduceIte, reduceCtorEq, Nat.reduceBEq, Nat.reduceAdd, Nat.reduceMul, Nat.reduceLT, Nat.reduceSub, Nat.reduceLeDiff, Nat.reduceEqDiff, Nat.reduceBneDiff, Int.reduceToNat, decide_eq_true_eq, decide_eq_false_iff_not, beq_iff_eq, Int.toNat_natCast, loopK_normal, loopK_exit, loopK_ret, w2]
      obtain rfl : k = l.length := by omega
      rw [List.take_length]
      exact ⟨_, [], rfl, ⟨⟨⟨rfl, rfl, rfl⟩, trivial⟩, trivial, by simp [rn, hpAt]⟩⟩
  · cases hg
end Go.Proofs.Ytcpmifgdmlpcpaa
