import Derived.Test.YtikcpbgnmdhilaaIm
set_option linter.unusedVariables false
set_option linter.unusedSimpArgs false
namespace Go.Proofs.Ytikcpbgnmdhilaa
open Go.RowKit
set_option linter.unusedSimpArgs false
def inRows (L : List Int) : List (List D) := L.map fun x => [D.v (.int .i64 x)]
theorem inRows_len (L : List Int) : (inRows L).length = L.length := by simp [inRows]
theorem inRows_w (L : List Int) : ∀ r ∈ inRows L, r.length = 1 := fun r hr => by
  obtain ⟨x, _, rfl⟩ := List.mem_map.1 hr
  rfl
theorem inRows_get (L : List Int) (k : Nat) (h : k < L.length) : (inRows L).getD k [] = [D.v (.int .i64 L[k])] := by
  simp [inRows, List.getD, h]
def lsR (xs : List UInt8) (i : Nat) : Rg := ⟨pickV xs (2 + 3 * (i : Int)) 30, pickV xs (2 + 3 * (i : Int)) 30 + 1 + pickV xs (2 + 3 * (i : Int) + 1) 6⟩
def lsI (xs : List UInt8) (i : Nat) : Int := pickV xs (2 + 3 * (i : Int) + 1 + 1) 6
def lsW (xs : List UInt8) (k : Nat) : List Rg := (List.range k).map (lsR xs)
def lsM (xs : List UInt8) (k : Nat) : List Int := (List.range k).map (lsI xs)
def lsK (xs : List UInt8) : Nat := (2 + pickV xs 1 24).toNat
theorem lsW_len (xs : List UInt8) (k : Nat) : (lsW xs k).length = k := by simp [lsW]
theorem lsM_len (xs : List UInt8) (k : Nat) : (lsM xs k).length = k := by simp [lsM]
theorem lsW_next (xs : List UInt8) (k : Nat) : lsW xs (k + 1) = lsW xs k ++ [lsR xs k] := by rw [lsW, lsW, List.range_succ, List.map_append]; rfl
theorem lsM_next (xs : List UInt8) (k : Nat) : lsM xs (k + 1) = lsM xs k ++ [lsI xs k] := by rw [lsM, lsM, List.range_succ, List.map_append]; rfl
def g_drawLs : PC := fun args => match args with
  | [.l _ rows] => some (∃ xs, rows = rowsOfBytes xs, .tup [.v (.int .i64 (4 + pickV ((bytesOfRows rows).take 2000) 0 20)), .l 2 (rgRows (lsW ((bytesOfRows rows).take 2000) (lsK ((bytesOfRows rows).take 2000)))), .l 1 (inRows (lsM ((bytesOfRows rows).take 2000) (lsK ((bytesOfRows rows).take 2000))))], [])
  | _ => none
def ndls : List (FuncId × Abs) := [(32, ownAbs g_open), (40, ownAbs g_pick)]
theorem ndls_ok : ∀ p ∈ ndls, CallOk Try.prog p.1 p.2 := by
  intro p hp
  simp only [ndls, List.mem_cons, List.not_mem_nil, or_false] at hp
  rcases hp with rfl | rfl
  · exact open_ok.call
  · exact pick_ok.call
set_option maxHeartbeats 4000000 in
set_option maxRecDepth 100000 in
theorem drawListening_ok : OwnOk Try.prog 28 (ocOf g_drawLs) := by
  refine OwnOk.of_vcD (G := ndls) ndls_ok mixed Try.func28 (by kernel_rfl) rfl ?_
  intro args cnd r bs hg hc
  unfold g_drawLs at hg
  split at hg
  · rename_i sz rows
    cases hg
    obtain ⟨xs, rfl⟩ := hc
    rw [bytesOf_rows]
    have hx : (∃ ys, rowsOfBytes (List.take 2000 xs) = rowsOfBytes ys ∧ ys.length ≤ 2000) = True := eq_true ⟨_, rfl, by rw [List.length_take]; omega⟩
    obtain ⟨ys, hys⟩ : ∃ ys, ys = List.take 2000 xs := ⟨_, rfl⟩
    rw [← hys] at hx ⊢
    have a1 := pickV_nonneg ys 0 20 (by omega)
    have a2 := pickV_lt ys 0 20 (by omega)
    have a3 := pickV_nonneg ys 1 24 (by omega)
    have a4 := pickV_lt ys 1 24 (by omega)
    have w1 : IntKind.i64.wrap (4 + pickV ys 0 20) = 4 + pickV ys 0 20 := wrap_id (by omega) (by omega)
    obtain ⟨K, hK⟩ : ∃ K, K = lsK ys := ⟨_, rfl⟩
    have hK' : 2 + pickV ys 1 24 = (K : Int) := by rw [hK, lsK]; omega
    have w2 : IntKind.i64.wrap (K : Int) = (K : Int) := wrap_id (by omega) (by omega)
    have z1 : (0 : Int) + 1 = 1 := rfl
    have z2 : (1 : Int) + 1 = 2 := rfl
    rw [← hK]
    refine ⟨⟨rfl, by simp [AV.ids, AV.ids.idsL]⟩, [.l 1 (rowsOfBytes xs)], rfl, fun w Z s vs h => CvL.ok (.cons (.l _ _ _ (rowsOf_w xs)) .nil) h, ?_⟩
    simp (maxSteps := 3000000) only [Try.f28, ndls, g_open, g_pick, bytesOf_rows, rowsOf_len, ← hys, hx, z1, z2, w1, w2, hK', loopK_normal, loopK_exit, loopK_ret, tYs, evL, implies_true, oMin, x_min3, oMin3, x_max, oMax, oCopy, oBin, oUn, oLoadKid, oStoreTree, oField, oExtract, oNil, oSliceQ, oSliceE, x_appendZ, oAppendZ, oSliceEnd, endMode, oLoadRow, takeCells, TS.atRow, TS.ex, treeMode, AV.isOwn, TK.isSl, nilTk, nilsB, oLenQ, oLen, nodupB, treeOf, kidAbs, kidRows, TK.isCell, D.toL, oLoad, oStore, oMake, oIndexAddr, ↓reduceIte, reduceCtorEq, Nat.reduceBEq, Nat.reduceAdd, Nat.reduceMul, Nat.reduceLT, Nat.reduceSub, Nat.reduceLeDiff, Nat.reduceEqDiff, Nat.reduceBneDiff, Int.reduceToNat, decide_eq_true_eq, decide_eq_false_iff_not, beq_iff_eq, Int.toNat_natCast, doneD_ret, doneD_normal]
    (repeat (refine And.intro ?_ ?_; focus (((repeat' apply And.intro) <;> first | exact rowsOf_w _ | omega | (simp only [List.length_append, rowsOf_len, List.length_cons, List.length_nil, marks_len, List.length_take, List.length_drop, List.length_set]; omega) | exact ⟨_, rfl⟩ | (refine ⟨_, rfl, ?_⟩; omega) | (refine ⟨_, rfl, ?_⟩; simp only [List.length_append, rowsOf_len, List.length_cons, List.length_nil, marks_len, List.length_take, List.length_drop, List.length_set]; omega) | kernel_rfl | (simp; done)); done)))
    refine e_loop _ _ _ _ _ _ _ _ (fun j : Nat => [.any, .any, .any, .any, .any, .ptr 0 0, .v (.int .i64 (4 + pickV ys 0 20)), .own 1, .own 2, .v (.int .i64 ((K : Int) - (j : Int)))] ++ List.replicate (Try.f28.ntmps - 10) .any) (fun j => [(0, .var 67 [.l 1 (rowsOfBytes ys), .v (.int .i64 (2 + 3 * (j : Int)))]), (1, .sl 44 2 (rgRows (lsW ys j))), (2, .sl 3 1 (inRows (lsM ys j)))]) (fun j => j ≤ K) (fun j => K - j) 3 (fun j => by simp) ?_ fun j hk' => ?_
    · exact ⟨0, [(0, some _), (1, some _), (2, some _)], Nat.zero_le _, ⟨⟨trivial, trivial, trivial, trivial, trivial, ⟨rfl, rfl, rfl⟩, ⟨rfl, rfl, rfl⟩, ⟨rfl, rfl, rfl⟩, ⟨rfl, rfl, rfl⟩, ⟨congrArg (fun z => AV.v (Value.int .i64 z)) (by omega), rfl, rfl⟩, fitT_rep _ _ rfl⟩, ⟨.inl rfl, rfl, rfl, rfl, .inl rfl, rfl, rfl, rfl, .inl rfl, rfl, rfl, rfl, trivial⟩, by simp [rn, hpAt]⟩, by simp [keepIds, rn]⟩
    have hj : j ≤ K := hk'
    by_cases hk : j < K
    · have d0 : ((K : Int) - (j : Int) > 0) = True := eq_true (by omega)
      have w7 : IntKind.i64.wrap ((K : Int) - (j : Int) - 1) = (K : Int) - ((j + 1 : Nat) : Int) := by rw [wrap_id] <;> omega
      have b1 := pickV_nonneg ys (2 + 3 * (j : Int)) 30 (by omega)
      have b2 := pickV_lt ys (2 + 3 * (j : Int)) 30 (by omega)
      have b3 := pickV_nonneg ys (2 + 3 * (j : Int) + 1) 6 (by omega)
      have b4 := pickV_lt ys (2 + 3 * (j : Int) + 1) 6 (by omega)
      have w8 : IntKind.i64.wrap (pickV ys (2 + 3 * (j : Int)) 30 + 1) = pickV ys (2 + 3 * (j : Int)) 30 + 1 := wrap_id (by omega) (by omega)
      have w9 : IntKind.i64.wrap (pickV ys (2 + 3 * (j : Int)) 30 + 1 + pickV ys (2 + 3 * (j : Int) + 1) 6) = pickV ys (2 + 3 * (j : Int)) 30 + 1 + pickV ys (2 + 3 * (j : Int) + 1) 6 := wrap_id (by omega) (by omega)
      have e1 : rgRows (lsW ys j) ++ [[.v (.int .i64 (pickV ys (2 + 3 * (j : Int)) 30)), .v (.int .i64 (pickV ys (2 + 3 * (j : Int)) 30 + 1 + pickV ys (2 + 3 * (j : Int) + 1) 6))]] = rgRows (lsW ys (j + 1)) := by
        rw [lsW_next, ← rgRows_app]; rfl
      have e2 : inRows (lsM ys j) ++ [[.v (.int .i64 (pickV ys (2 + 3 * (j : Int) + 1 + 1) 6))]] = inRows (lsM ys (j + 1)) := by
        rw [lsM_next, inRows, inRows, List.map_append]; rfl
      have l1 := lsW_len ys j
      have l2 := lsM_len ys j
      have w6 : 2 + 3 * (j : Int) + 1 + 1 + 1 = 2 + 3 * ((j + 1 : Nat) : Int) := by omega
      simp (maxSteps := 3000000) only [Try.f28, ndls, g_open, g_pick, bytesOf_rows, rowsOf_len, rgRows_len, inRows_len, hx, d0, w6, w7, w8, w9, e1, e2, ↓reduceIte, Bool.false_eq_true, tYs, evL, implies_true, oMin, x_min3, oMin3, x_max, oMax, oCopy, oBin, oUn, oLoadKid, oStoreTree, oField, oExtract, oNil, oSliceQ, oSliceE, x_appendZ, oAppendZ, oSliceEnd, endMode, oLoadRow, takeCells, TS.atRow, TS.ex, treeMode, AV.isOwn, TK.isSl, nilTk, nilsB, oLenQ, oLen, nodupB, treeOf, kidAbs, kidRows, TK.isCell, D.toL, oLoad, oStore, oMake, oIndexAddr, ↓reduceIte, reduceCtorEq, Nat.reduceBEq, Nat.reduceAdd, Nat.reduceMul, Nat.reduceLT, Nat.reduceSub, Nat.reduceLeDiff, Nat.reduceEqDiff, Nat.reduceBneDiff, Int.reduceToNat, decide_eq_true_eq, decide_eq_false_iff_not, beq_iff_eq, Int.toNat_natCast, loopK_normal, loopK_exit, loopK_ret, doneD_ret, doneD_normal]
      clear e1 e2
      repeat' first
        | (refine And.intro ?_ ?_; focus (omega; done))
        | (refine And.intro ?_ ?_; focus (kernel_rfl))
        | (refine And.intro ?_ ?_; focus (exact ⟨by omega, by omega⟩))
        | (refine And.intro ?_ ?_; focus (exact ⟨by omega, by omega, rgRows_w _⟩))
        | (refine And.intro ?_ ?_; focus (exact ⟨by omega, by omega, inRows_w _⟩))
        | (refine And.intro ?_ ?_; focus (exact ⟨by omega, by omega, fun r hr => by simp only [List.mem_cons, List.not_mem_nil, or_false] at hr; subst hr; rfl⟩))
      exact ⟨j + 1, [(0, some 0), (1, some _), (2, some _)], by omega, by omega, ⟨⟨trivial, trivial, trivial, trivial, trivial, ⟨rfl, rfl, rfl⟩, ⟨rfl, rfl, rfl⟩, ⟨rfl, rfl, rfl⟩, ⟨rfl, rfl, rfl⟩, ⟨rfl, rfl, rfl⟩, fitT_rep _ _ rfl⟩, ⟨.inl rfl, rfl, rfl, rfl, .inl rfl, rfl, rfl, rfl, .inl rfl, rfl, rfl, rfl, trivial⟩, by simp [rn, hpAt]⟩, by simp [keepIds, rn]⟩
    · have d0 : ((K : Int) - (j : Int) > 0) = False := eq_false (by omega)
      obtain rfl : j = K := by omega
      simp (maxSteps := 3000000) only [Try.f28, ndls, g_open, g_pick, bytesOf_rows, rowsOf_len, rgRows_len, inRows_len, hx, d0, ↓reduceIte, Bool.false_eq_true, tYs, evL, implies_true, oMin, x_min3, oMin3, x_max, oMax, oCopy, oBin, oUn, oLoadKid, oStoreTree, oField, oExtract, oNil, oSliceQ, oSliceE, x_appendZ, oAppendZ, oSliceEnd, endMode, oLoadRow, takeCells, TS.atRow, TS.ex, treeMode, AV.isOwn, TK.isSl, nilTk, nilsB, oLenQ, oLen, nodupB, treeOf, kidAbs, kidRows, TK.isCell, D.toL, oLoad, oStore, oMake, oIndexAddr, ↓reduceIte, reduceCtorEq, Nat.reduceBEq, Nat.reduceAdd, Nat.reduceMul, Nat.reduceLT, Nat.reduceSub, Nat.reduceLeDiff, Nat.reduceEqDiff, Nat.reduceBneDiff, Int.reduceToNat, decide_eq_true_eq, decide_eq_false_iff_not, beq_iff_eq, Int.toNat_natCast, loopK_normal, loopK_exit, loopK_ret, doneD_ret, doneD_normal]
      exact ⟨_, rfl, rfl⟩
  · cases hg
end Go.Proofs.Ytikcpbgnmdhilaa
