import Derived.Test.YtkfjaeoehhakpaaId
set_option linter.unusedVariables false
set_option linter.unusedSimpArgs false
namespace Go.Proofs.Ytkfjaeoehhakpaa
open Go.RowKit
set_option linter.unusedSimpArgs false
def g_earHear : PC := fun args => match args with
  | [.agg [.v (.int .i64 n), .v (.int .i64 room), .l _ rg, .l _ rf], .v (.int .i64 a), .l _ rd] => some (((∃ xs, rg = rowsOfBytes xs ∧ xs.length ≤ 140737488355328) ∧ ∃ l, rf = erRows l ∧ l.length ≤ 1048577) ∧ ∃ ds, rd = rowsOfBytes ds ∧ ds.length ≤ 1048576, .agg [.v (.int .i64 (hrV ⟨n, room, bytesOfRows rg, ersOf rf⟩ a (bytesOfRows rd)).n), .v (.int .i64 (hrV ⟨n, room, bytesOfRows rg, ersOf rf⟩ a (bytesOfRows rd)).room), .own 0, .own 1], [.sl 5 1 (rowsOfBytes ((hrV ⟨n, room, bytesOfRows rg, ersOf rf⟩ a (bytesOfRows rd)).g)), .sl 51 2 (erRows (hrV ⟨n, room, bytesOfRows rg, ersOf rf⟩ a (bytesOfRows rd)).fr)])
  | _ => none
theorem hrW_len (e : Ea) (a : Int) (d : List UInt8) : ∀ k, (hrW e a d k).length ≤ e.fr.length + k
  | 0 => Nat.le_refl _
  | k + 1 => by
    have := hrW_len e a d k
    rw [hrW]
    split
    · have := insE_len (hrW e a d k) ⟨a + (k : Int), d.getD k 0⟩; omega
    · omega
def go12d : List (FuncId × Abs) := [(9, pureAbs g_earOk), (32, pureAbs g_l1In), (9, pureAbs g_earOk), (13, pureAbs g_earFree), (38, pureAbs g_put12)]
theorem go12d_ok : ∀ p ∈ go12d, CallOk Try.prog p.1 p.2 := by
  intro p hp
  simp only [go12d, List.mem_cons, List.not_mem_nil, or_false] at hp
  rcases hp with rfl | rfl | rfl | rfl | rfl
  · exact specEarOk_ok.call
  · exact l1In_ok.call
  · exact specEarOk_ok.call
  · exact specEarFree_ok.call
  · exact specPut12_ok.call
set_option maxHeartbeats 8000000 in
set_option maxRecDepth 100000 in
theorem specEarHear_ok : PureOk Try.prog 15 g_earHear := by
  refine PureOk.of_vc (G := go12d) go12d_ok mixed Try.func15 (by kernel_rfl) rfl ?_
  intro args cnd r bs hg hc
  unfold g_earHear at hg
  split at hg
  · rename_i n room sg rg sf rf a sd rd
    cases hg
    obtain ⟨⟨⟨xs, rfl, hx⟩, l, rfl, hl⟩, ds, rfl, hd⟩ := hc
    rw [bytesOf_rows, bytesOf_rows, ersOf_rows]
    refine ⟨⟨rfl, by intro u hu; simp only [List.mem_cons, List.not_mem_nil, or_false] at hu; rcases hu with rfl | rfl; exact rowsOf_flat _; exact erRows_flat _, by simp [AV.ids, AV.ids.idsL]⟩, [.agg [.v (.int .i64 n), .v (.int .i64 room), .l 1 (rowsOfBytes xs), .l 2 (erRows l)], .v (.int .i64 a), .l 1 (rowsOfBytes ds)], rfl, fun w vs h => CvL.ok (.cons (.cons (.refl _) (.cons (.refl _) (.cons (.l _ _ _ (rowsOf_w xs)) (.cons (.l _ _ _ (erRows_w l)) .nil)))) (.cons (.refl _) (.cons (.l _ _ _ (rowsOf_w ds)) .nil))) h, ?_⟩
    rcases h0 : eaB ⟨n, room, xs, l⟩ with _ | _
    · have eO : hrO ⟨n, room, xs, l⟩ a ds = false := by rw [hrO, h0]; rfl
      have eV : hrV ⟨n, room, xs, l⟩ a ds = ea0 := if_neg (by rw [eO]; decide)
      rw [eV]
      simp (maxSteps := 3000000) only [Try.f15, go12d, g_earOk, g_l1In, g_earFree, g_put12, erRows_len, rowsOf_len, ersOf_rows, bytesOf_rows, h0, List.append_eq, List.cons_append, List.nil_append, Bool.not_true, Bool.not_false, ↓reduceIte, Bool.false_eq_true, tYs, evL, implies_true, oMin, x_min3, oMin3, x_max, oMax, oCopy, oBin, oUn, oLoadKid, oStoreTree, oField, oExtract, oNil, oSliceQ, oSliceE, x_appendZ, oAppendZ, oSliceEnd, endMode, oLoadRow, takeCells, TS.atRow, TS.ex, treeMode, AV.isOwn, TK.isSl, nilTk, nilsB, oLenQ, oLen, nodupB, treeOf, kidAbs, kidRows, TK.isCell, D.toL, oLoad, oStore, oMake, oIndexAddr, ↓reduceIte, reduceCtorEq, Nat.reduceBEq, Nat.reduceAdd, Nat.reduceMul, Nat.reduceLT, Nat.reduceSub, Nat.reduceLeDiff, Nat.reduceEqDiff, Nat.reduceBneDiff, Int.reduceToNat, decide_eq_true_eq, decide_eq_false_iff_not, beq_iff_eq, Int.toNat_natCast, loopK_normal, loopK_exit, loopK_ret]
      (repeat (refine And.intro ?_ ?_; focus (((repeat' apply And.intro) <;> first | omega | exact rowsOf_w _ | exact erRows_w _ | exact ⟨_, rfl⟩ | (refine ⟨_, rfl, ?_⟩; first | omega | (simp only [List.length_append, rowsOf_len, erRows_len, List.length_cons, List.length_nil, marks_len, List.length_take, List.length_drop, List.length_set, List.length_map, List.length_range]; omega)) | (simp only [List.length_append, rowsOf_len, erRows_len, List.length_cons, List.length_nil, marks_len, List.length_take, List.length_drop, List.length_set, List.length_map, List.length_range]; omega) | kernel_rfl | (simp; done)); done)))
      exact ⟨_, [(0, none), (1, none)], rfl, ⟨⟨⟨rfl, rfl, rfl⟩, trivial⟩, ⟨⟨by omega, rfl⟩, rfl, rfl, rfl, ⟨by omega, rfl⟩, rfl, rfl, rfl, trivial⟩, by simp [rn, hpAt]⟩⟩
    rcases h1 : inZ a 0 1000000 with _ | _
    · have eO : hrO ⟨n, room, xs, l⟩ a ds = false := by rw [hrO, h0, h1]; rfl
      have eV : hrV ⟨n, room, xs, l⟩ a ds = ea0 := if_neg (by rw [eO]; decide)
      rw [eV]
      simp (maxSteps := 3000000) only [Try.f15, go12d, g_earOk, g_l1In, g_earFree, g_put12, erRows_len, rowsOf_len, ersOf_rows, bytesOf_rows, h0, h1, List.append_eq, List.cons_append, List.nil_append, Bool.not_true, Bool.not_false, ↓reduceIte, Bool.false_eq_true, tYs, evL, implies_true, oMin, x_min3, oMin3, x_max, oMax, oCopy, oBin, oUn, oLoadKid, oStoreTree, oField, oExtract, oNil, oSliceQ, oSliceE, x_appendZ, oAppendZ, oSliceEnd, endMode, oLoadRow, takeCells, TS.atRow, TS.ex, treeMode, AV.isOwn, TK.isSl, nilTk, nilsB, oLenQ, oLen, nodupB, treeOf, kidAbs, kidRows, TK.isCell, D.toL, oLoad, oStore, oMake, oIndexAddr, ↓reduceIte, reduceCtorEq, Nat.reduceBEq, Nat.reduceAdd, Nat.reduceMul, Nat.reduceLT, Nat.reduceSub, Nat.reduceLeDiff, Nat.reduceEqDiff, Nat.reduceBneDiff, Int.reduceToNat, decide_eq_true_eq, decide_eq_false_iff_not, beq_iff_eq, Int.toNat_natCast, loopK_normal, loopK_exit, loopK_ret]
      (repeat (refine And.intro ?_ ?_; focus (((repeat' apply And.intro) <;> first | omega | exact rowsOf_w _ | exact erRows_w _ | exact ⟨_, rfl⟩ | (refine ⟨_, rfl, ?_⟩; first | omega | (simp only [List.length_append, rowsOf_len, erRows_len, List.length_cons, List.length_nil, marks_len, List.length_take, List.length_drop, List.length_set, List.length_map, List.length_range]; omega)) | (simp only [List.length_append, rowsOf_len, erRows_len, List.length_cons, List.length_nil, marks_len, List.length_take, List.length_drop, List.length_set, List.length_map, List.length_range]; omega) | kernel_rfl | (simp; done)); done)))
      exact ⟨_, [(0, none), (1, none)], rfl, ⟨⟨⟨rfl, rfl, rfl⟩, trivial⟩, ⟨⟨by omega, rfl⟩, rfl, rfl, rfl, ⟨by omega, rfl⟩, rfl, rfl, rfl, trivial⟩, by simp [rn, hpAt]⟩⟩
    have b1 := inZ_iff.1 h1
    have hcnt := ea_count h0
    obtain ⟨b2, b3, b4, b5, b6⟩ := eaB_iff.1 h0
    dsimp only at hcnt b2 b3 b4
    obtain ⟨F, hF⟩ : ∃ F, eaF ⟨n, room, xs, l⟩ = F := ⟨_, rfl⟩
    have hF2 : room - (xs.length : Int) = F := hF
    have hwl := hrW_len ⟨n, room, xs, l⟩ a ds
    dsimp only at hwl
    simp (maxSteps := 3000000) only [Try.f15, go12d, g_earOk, g_l1In, g_earFree, g_put12, erRows_len, rowsOf_len, ersOf_rows, bytesOf_rows, h0, h1, hF, List.append_eq, List.cons_append, List.nil_append, Bool.not_true, Bool.not_false, ↓reduceIte, Bool.false_eq_true, tYs, evL, implies_true, oMin, x_min3, oMin3, x_max, oMax, oCopy, oBin, oUn, oLoadKid, oStoreTree, oField, oExtract, oNil, oSliceQ, oSliceE, x_appendZ, oAppendZ, oSliceEnd, endMode, oLoadRow, takeCells, TS.atRow, TS.ex, treeMode, AV.isOwn, TK.isSl, nilTk, nilsB, oLenQ, oLen, nodupB, treeOf, kidAbs, kidRows, TK.isCell, D.toL, oLoad, oStore, oMake, oIndexAddr, ↓reduceIte, reduceCtorEq, Nat.reduceBEq, Nat.reduceAdd, Nat.reduceMul, Nat.reduceLT, Nat.reduceSub, Nat.reduceLeDiff, Nat.reduceEqDiff, Nat.reduceBneDiff, Int.reduceToNat, decide_eq_true_eq, decide_eq_false_iff_not, beq_iff_eq, Int.toNat_natCast, loopK_normal, loopK_exit, loopK_ret]
    (repeat (refine And.intro ?_ ?_; focus (((repeat' apply And.intro) <;> first | omega | exact rowsOf_w _ | exact erRows_w _ | exact ⟨_, rfl⟩ | (refine ⟨_, rfl, ?_⟩; first | omega | (simp only [List.length_append, rowsOf_len, erRows_len, List.length_cons, List.length_nil, marks_len, List.length_take, List.length_drop, List.length_set, List.length_map, List.length_range]; omega)) | (simp only [List.length_append, rowsOf_len, erRows_len, List.length_cons, List.length_nil, marks_len, List.length_take, List.length_drop, List.length_set, List.length_map, List.length_range]; omega) | kernel_rfl | (simp; done)); done)))
    refine e_loop _ _ _ _ _ _ _ _ (fun k : Nat => [.any, .v (.int .i64 a), .l 1 (rowsOfBytes ds), .ptr 0 0, .any, .any, .ptr 1 0, .v (.int .i64 F), .own 2, .v (.int .i64 (k : Int))] ++ List.replicate (Try.f15.ntmps - 10) .any) (fun k => [(0, .var 30 [.v (.int .i64 n), .v (.int .i64 room), .l 1 (rowsOfBytes xs), .l 2 (erRows l)]), (1, .var 30 [.v (.int .i64 0), .v (.int .i64 0), .v (.slice none 0 0), .v (.slice none 0 0)]), (2, .sl 51 2 (erRows (hrW ⟨n, room, xs, l⟩ a ds k)))]) (fun k => k ≤ ds.length) (fun k => ds.length - k) 3 (fun k => by simp) ?_ fun k hk' => ?_
    · exact ⟨0, [(0, some 0), (1, some _), (2, some _)], Nat.zero_le _, ⟨⟨trivial, ⟨rfl, rfl, rfl⟩, ⟨rfl, rfl, rfl⟩, ⟨rfl, rfl, rfl⟩, trivial, trivial, ⟨rfl, rfl, rfl⟩, ⟨rfl, rfl, rfl⟩, ⟨rfl, rfl, rfl⟩, ⟨rfl, rfl, rfl⟩, fitT_rep _ _ rfl⟩, ⟨.inl rfl, rfl, rfl, rfl, .inl rfl, rfl, rfl, rfl, .inl rfl, rfl, rfl, rfl, trivial⟩, by simp [rn, hpAt]⟩, by simp [keepIds]⟩
    have hk1 : k ≤ ds.length := hk'
    have w2 : IntKind.i64.wrap ((k : Int) + 1) = ((k + 1 : Nat) : Int) := by rw [wrap_id] <;> omega
    have w3 : IntKind.i64.wrap (a + (k : Int)) = a + (k : Int) := wrap_id (by omega) (by omega)
    have w4 : IntKind.i64.wrap (n + F) = n + F := wrap_id (by omega) (by omega)
    have hwk := hwl k
    by_cases hk : k < ds.length
    · have hlt : ((k : Int) < (ds.length : Int)) = True := eq_true (by omega)
      have h00 : (0 ≤ (k : Int)) = True := eq_true (by omega)
      by_cases c1 : a + (k : Int) ≥ n
      · have f1 : (a + (k : Int) ≥ n) = True := eq_true c1
        by_cases c2 : a + (k : Int) < n + F
        · have f2 : (a + (k : Int) < n + F) = True := eq_true c2
          have hput : insE (hrW ⟨n, room, xs, l⟩ a ds k) ⟨a + (k : Int), toU8 (((ds.getD k 0).toNat : Nat) : Int)⟩ = hrW ⟨n, room, xs, l⟩ a ds (k + 1) := by rw [toU8_back, hrW, if_pos ⟨c1, by rw [hF]; exact c2⟩]
          simp (maxSteps := 3000000) only [Try.f15, go12d, g_earOk, g_l1In, g_earFree, g_put12, erRows_len, rowsOf_len, ersOf_rows, bytesOf_rows, hlt, h00, f1, f2, w2, w3, w4, hput, row_toI, row_nil, row_head, List.append_eq, List.cons_append, List.nil_append, Bool.not_true, Bool.not_false, ↓reduceIte, Bool.false_eq_true, tYs, evL, implies_true, oMin, x_min3, oMin3, x_max, oMax, oCopy, oBin, oUn, oLoadKid, oStoreTree, oField, oExtract, oNil, oSliceQ, oSliceE, x_appendZ, oAppendZ, oSliceEnd, endMode, oLoadRow, takeCells, TS.atRow, TS.ex, treeMode, AV.isOwn, TK.isSl, nilTk, nilsB, oLenQ, oLen, nodupB, treeOf, kidAbs, kidRows, TK.isCell, D.toL, oLoad, oStore, oMake, oIndexAddr, ↓reduceIte, reduceCtorEq, Nat.reduceBEq, Nat.reduceAdd, Nat.reduceMul, Nat.reduceLT, Nat.reduceSub, Nat.reduceLeDiff, Nat.reduceEqDiff, Nat.reduceBneDiff, Int.reduceToNat, decide_eq_true_eq, decide_eq_false_iff_not, beq_iff_eq, Int.toNat_natCast, loopK_normal, loopK_exit, loopK_ret]
          clear hput
          (repeat (refine And.intro ?_ ?_; focus (((repeat' apply And.intro) <;> first | omega | exact rowsOf_w _ | exact erRows_w _ | exact ⟨_, rfl⟩ | (refine ⟨_, rfl, ?_⟩; first | omega | (simp only [List.length_append, rowsOf_len, erRows_len, List.length_cons, List.length_nil, marks_len, List.length_take, List.length_drop, List.length_set, List.length_map, List.length_range]; omega)) | (simp only [List.length_append, rowsOf_len, erRows_len, List.length_cons, List.length_nil, marks_len, List.length_take, List.length_drop, List.length_set, List.length_map, List.length_range]; omega) | kernel_rfl | (simp; done)); done)))
          exact ⟨k + 1, [(0, some 0), (1, some 1), (2, some _)], by omega, by omega, ⟨⟨trivial, ⟨rfl, rfl, rfl⟩, ⟨rfl, rfl, rfl⟩, ⟨rfl, rfl, rfl⟩, trivial, trivial, ⟨rfl, rfl, rfl⟩, ⟨rfl, rfl, rfl⟩, ⟨rfl, rfl, rfl⟩, ⟨rfl, rfl, rfl⟩, fitT_rep _ _ rfl⟩, ⟨.inl rfl, rfl, rfl, rfl, .inl rfl, rfl, rfl, rfl, .inl rfl, rfl, rfl, rfl, trivial⟩, by simp [rn, hpAt]⟩, by simp [keepIds, rn]⟩
        · have f2 : (a + (k : Int) < n + F) = False := eq_false c2
          have hput : hrW ⟨n, room, xs, l⟩ a ds k = hrW ⟨n, room, xs, l⟩ a ds (k + 1) := by rw [hrW, if_neg (by rw [hF]; exact fun h => c2 h.2)]
          simp (maxSteps := 3000000) only [Try.f15, go12d, g_earOk, g_l1In, g_earFree, g_put12, erRows_len, rowsOf_len, ersOf_rows, bytesOf_rows, hlt, h00, f1, f2, w2, w3, w4, hput, row_toI, row_nil, row_head, List.append_eq, List.cons_append, List.nil_append, Bool.not_true, Bool.not_false, ↓reduceIte, Bool.false_eq_true, tYs, evL, implies_true, oMin, x_min3, oMin3, x_max, oMax, oCopy, oBin, oUn, oLoadKid, oStoreTree, oField, oExtract, oNil, oSliceQ, oSliceE, x_appendZ, oAppendZ, oSliceEnd, endMode, oLoadRow, takeCells, TS.atRow, TS.ex, treeMode, AV.isOwn, TK.isSl, nilTk, nilsB, oLenQ, oLen, nodupB, treeOf, kidAbs, kidRows, TK.isCell, D.toL, oLoad, oStore, oMake, oIndexAddr, ↓reduceIte, reduceCtorEq, Nat.reduceBEq, Nat.reduceAdd, Nat.reduceMul, Nat.reduceLT, Nat.reduceSub, Nat.reduceLeDiff, Nat.reduceEqDiff, Nat.reduceBneDiff, Int.reduceToNat, decide_eq_true_eq, decide_eq_false_iff_not, beq_iff_eq, Int.toNat_natCast, loopK_normal, loopK_exit, loopK_ret]
          (repeat (refine And.intro ?_ ?_; focus (((repeat' apply And.intro) <;> first | omega | exact rowsOf_w _ | exact erRows_w _ | exact ⟨_, rfl⟩ | (refine ⟨_, rfl, ?_⟩; first | omega | (simp only [List.length_append, rowsOf_len, erRows_len, List.length_cons, List.length_nil, marks_len, List.length_take, List.length_drop, List.length_set, List.length_map, List.length_range]; omega)) | (simp only [List.length_append, rowsOf_len, erRows_len, List.length_cons, List.length_nil, marks_len, List.length_take, List.length_drop, List.length_set, List.length_map, List.length_range]; omega) | kernel_rfl | (simp; done)); done)))
          exact ⟨k + 1, [(0, some 0), (1, some 1), (2, some 2)], by omega, by omega, ⟨⟨trivial, ⟨rfl, rfl, rfl⟩, ⟨rfl, rfl, rfl⟩, ⟨rfl, rfl, rfl⟩, trivial, trivial, ⟨rfl, rfl, rfl⟩, ⟨rfl, rfl, rfl⟩, ⟨rfl, rfl, rfl⟩, ⟨rfl, rfl, rfl⟩, fitT_rep _ _ rfl⟩, ⟨.inl rfl, rfl, rfl, rfl, .inl rfl, rfl, rfl, rfl, .inl rfl, rfl, rfl, rfl, trivial⟩, by simp [rn, hpAt]⟩, by simp [keepIds, rn]⟩
      · have f1 : (a + (k : Int) ≥ n) = False := eq_false c1
        have hput : hrW ⟨n, room, xs, l⟩ a ds k = hrW ⟨n, room, xs, l⟩ a ds (k + 1) := by rw [hrW, if_neg (fun h => c1 h.1)]
        simp (maxSteps := 3000000) only [Try.f15, go12d, g_earOk, g_l1In, g_earFree, g_put12, erRows_len, rowsOf_len, ersOf_rows, bytesOf_rows, hlt, h00, f1, w2, w3, w4, hput, row_toI, row_nil, row_head, List.append_eq, List.cons_append, List.nil_append, Bool.not_true, Bool.not_false, ↓reduceIte, Bool.false_eq_true, tYs, evL, implies_true, oMin, x_min3, oMin3, x_max, oMax, oCopy, oBin, oUn, oLoadKid, oStoreTree, oField, oExtract, oNil, oSliceQ, oSliceE, x_appendZ, oAppendZ, oSliceEnd, endMode, oLoadRow, takeCells, TS.atRow, TS.ex, treeMode, AV.isOwn, TK.isSl, nilTk, nilsB, oLenQ, oLen, nodupB, treeOf, kidAbs, kidRows, TK.isCell, D.toL, oLoad, oStore, oMake, oIndexAddr, ↓reduceIte, reduceCtorEq, Nat.reduceBEq, Nat.reduceAdd, Nat.reduceMul, Nat.reduceLT, Nat.reduceSub, Nat.reduceLeDiff, Nat.reduceEqDiff, Nat.reduceBneDiff, Int.reduceToNat, decide_eq_true_eq, decide_eq_false_iff_not, beq_iff_eq, Int.toNat_natCast, loopK_normal, loopK_exit, loopK_ret]
        (repeat (refine And.intro ?_ ?_; focus (((repeat' apply And.intro) <;> first | omega | exact rowsOf_w _ | exact erRows_w _ | exact ⟨_, rfl⟩ | (refine ⟨_, rfl, ?_⟩; first | omega | (simp only [List.length_append, rowsOf_len, erRows_len, List.length_cons, List.length_nil, marks_len, List.length_take, List.length_drop, List.length_set, List.length_map, List.length_range]; omega)) | (simp only [List.length_append, rowsOf_len, erRows_len, List.length_cons, List.length_nil, marks_len, List.length_take, List.length_drop, List.length_set, List.length_map, List.length_range]; omega) | kernel_rfl | (simp; done)); done)))
        exact ⟨k + 1, [(0, some 0), (1, some 1), (2, some 2)], by omega, by omega, ⟨⟨trivial, ⟨rfl, rfl, rfl⟩, ⟨rfl, rfl, rfl⟩, ⟨rfl, rfl, rfl⟩, trivial, trivial, ⟨rfl, rfl, rfl⟩, ⟨rfl, rfl, rfl⟩, ⟨rfl, rfl, rfl⟩, ⟨rfl, rfl, rfl⟩, fitT_rep _ _ rfl⟩, ⟨.inl rfl, rfl, rfl, rfl, .inl rfl, rfl, rfl, rfl, .inl rfl, rfl, rfl, rfl, trivial⟩, by simp [rn, hpAt]⟩, by simp [keepIds, rn]⟩
    have hlt : ((k : Int) < (ds.length : Int)) = False := eq_false (by omega)
    obtain rfl : k = ds.length := by omega
    obtain ⟨L, hL⟩ : ∃ L, L = hrW ⟨n, room, xs, l⟩ a ds ds.length := ⟨_, rfl⟩
    have hLl : L.length ≤ l.length + ds.length := by rw [hL]; exact hwk
    rw [← hL]
    simp (maxSteps := 3000000) only [Try.f15, go12d, g_earOk, g_l1In, g_earFree, g_put12, erRows_len, rowsOf_len, ersOf_rows, bytesOf_rows, hlt, w2, List.append_eq, List.cons_append, List.nil_append, Bool.not_true, Bool.not_false, ↓reduceIte, Bool.false_eq_true, tYs, evL, implies_true, oMin, x_min3, oMin3, x_max, oMax, oCopy, oBin, oUn, oLoadKid, oStoreTree, oField, oExtract, oNil, oSliceQ, oSliceE, x_appendZ, oAppendZ, oSliceEnd, endMode, oLoadRow, takeCells, TS.atRow, TS.ex, treeMode, AV.isOwn, TK.isSl, nilTk, nilsB, oLenQ, oLen, nodupB, treeOf, kidAbs, kidRows, TK.isCell, D.toL, oLoad, oStore, oMake, oIndexAddr, ↓reduceIte, reduceCtorEq, Nat.reduceBEq, Nat.reduceAdd, Nat.reduceMul, Nat.reduceLT, Nat.reduceSub, Nat.reduceLeDiff, Nat.reduceEqDiff, Nat.reduceBneDiff, Int.reduceToNat, decide_eq_true_eq, decide_eq_false_iff_not, beq_iff_eq, Int.toNat_natCast, loopK_normal, loopK_exit, loopK_ret]
    (repeat (refine And.intro ?_ ?_; focus (((repeat' apply And.intro) <;> first | omega | exact rowsOf_w _ | exact erRows_w _ | exact ⟨_, rfl⟩ | (refine ⟨_, rfl, ?_⟩; first | omega | (simp only [List.length_append, rowsOf_len, erRows_len, List.length_cons, List.length_nil, marks_len, List.length_take, List.length_drop, List.length_set, List.length_map, List.length_range]; omega)) | (simp only [List.length_append, rowsOf_len, erRows_len, List.length_cons, List.length_nil, marks_len, List.length_take, List.length_drop, List.length_set, List.length_map, List.length_range]; omega) | kernel_rfl | (simp; done)); done)))
    obtain ⟨M, hM⟩ : ∃ M, M = runE n L := ⟨_, rfl⟩
    have hMl : M ≤ L.length := by rw [hM]; exact runE_le n L
    have hMe : hrM ⟨n, room, xs, l⟩ a ds = M := by rw [hM, hL]; rfl
    have hLe : hrL ⟨n, room, xs, l⟩ a ds = L := by rw [hL]; rfl
    refine e_loop _ _ _ _ _ _ _ _ (fun j : Nat => [.any, .any, .any, .any, .any, .any, .ptr 0 0, .any, .own 1, .any, .ptr 2 0, .v (.int .i64 (j : Int))] ++ List.replicate (Try.f15.ntmps - 12) .any) (fun j => [(0, .var 30 [.v (.int .i64 0), .v (.int .i64 0), .v (.slice none 0 0), .v (.slice none 0 0)]), (1, .sl 51 2 (erRows L)), (2, .var 30 [.v (.int .i64 (n + (j : Int))), .v (.int .i64 room), .own 3, .v (.slice none 0 0)]), (3, .sl 5 1 (rowsOfBytes (xs ++ ((L.take j).map Er.b))))]) (fun j => j ≤ M) (fun j => M - j) 4 (fun j => by simp) ?_ fun j hk' => ?_
    · exact ⟨0, [(0, some 1), (1, some 2), (2, some _), (3, some _)], Nat.zero_le _, ⟨⟨trivial, trivial, trivial, trivial, trivial, trivial, ⟨rfl, rfl, rfl⟩, trivial, ⟨rfl, rfl, rfl⟩, trivial, ⟨rfl, rfl, rfl⟩, ⟨rfl, rfl, rfl⟩, fitT_rep _ _ rfl⟩, ⟨.inl rfl, rfl, rfl, rfl, .inl rfl, rfl, rfl, rfl, .inl (congrArg (fun z => Blk.var 30 [AV.v (Value.int .i64 z), AV.v (Value.int .i64 room), AV.own _, AV.v (Value.slice none 0 0)]) (show n = n + ((0 : Nat) : Int) by omega)), rfl, rfl, rfl, .inl (congrArg (fun z => Blk.sl 5 1 (rowsOfBytes z)) (show xs = xs ++ ((L.take 0).map Er.b) by simp)), rfl, rfl, rfl, trivial⟩, by simp [rn, hpAt]⟩, by simp [keepIds]⟩
    have hj : j ≤ M := hk'
    have v2 : IntKind.i64.wrap ((j : Int) + 1) = ((j + 1 : Nat) : Int) := by rw [wrap_id] <;> omega
    have v3 : IntKind.i64.wrap (n + (j : Int) + 1) = n + ((j + 1 : Nat) : Int) := by rw [wrap_id] <;> omega
    by_cases hjM : j < M
    · have hjl : j < L.length := by omega
      have e1 : L[j].p = n + (j : Int) := runE_at hjl (by omega)
      have hrow := erRows_get L j hjl
      rw [e1] at hrow
      have hlt : ((j : Int) < (L.length : Int)) = True := eq_true (by omega)
      have h00 : (0 ≤ (j : Int)) = True := eq_true (by omega)
      have hnx : rowsOfBytes (xs ++ ((L.take j).map Er.b)) ++ [[.v (.int .u8 (L[j].b.toNat : Int))]] = rowsOfBytes (xs ++ ((L.take (j + 1)).map Er.b)) := by
        rw [take_one hjl, List.map_append, ← List.append_assoc]
        simp [rowsOfBytes]
      have hgl : (xs ++ ((L.take j).map Er.b)).length ≤ xs.length + L.length := by simp only [List.length_append, List.length_map, List.length_take]; omega
      simp (maxSteps := 3000000) only [Try.f15, go12d, g_earOk, g_l1In, g_earFree, g_put12, erRows_len, rowsOf_len, ersOf_rows, bytesOf_rows, hlt, h00, hrow, hnx, v2, v3, beq_self_eq_true, D.toI, D.toL, List.append_eq, List.cons_append, List.nil_append, Bool.not_true, Bool.not_false, ↓reduceIte, Bool.false_eq_true, tYs, evL, implies_true, oMin, x_min3, oMin3, x_max, oMax, oCopy, oBin, oUn, oLoadKid, oStoreTree, oField, oExtract, oNil, oSliceQ, oSliceE, x_appendZ, oAppendZ, oSliceEnd, endMode, oLoadRow, takeCells, TS.atRow, TS.ex, treeMode, AV.isOwn, TK.isSl, nilTk, nilsB, oLenQ, oLen, nodupB, treeOf, kidAbs, kidRows, TK.isCell, D.toL, oLoad, oStore, oMake, oIndexAddr, ↓reduceIte, reduceCtorEq, Nat.reduceBEq, Nat.reduceAdd, Nat.reduceMul, Nat.reduceLT, Nat.reduceSub, Nat.reduceLeDiff, Nat.reduceEqDiff, Nat.reduceBneDiff, Int.reduceToNat, decide_eq_true_eq, decide_eq_false_iff_not, beq_iff_eq, Int.toNat_natCast, loopK_normal, loopK_exit, loopK_ret]
      clear hnx
      (repeat (refine And.intro ?_ ?_; focus (((repeat' apply And.intro) <;> first | omega | exact rowsOf_w _ | exact erRows_w _ | exact ⟨_, rfl⟩ | (refine ⟨_, rfl, ?_⟩; first | omega | (simp only [List.length_append, rowsOf_len, erRows_len, List.length_cons, List.length_nil, marks_len, List.length_take, List.length_drop, List.length_set, List.length_map, List.length_range]; omega)) | (simp only [List.length_append, rowsOf_len, erRows_len, List.length_cons, List.length_nil, marks_len, List.length_take, List.length_drop, List.length_set, List.length_map, List.length_range]; omega) | kernel_rfl | (simp; done)); done)))
      exact ⟨j + 1, [(0, some 0), (1, some 1), (2, some 2), (3, some _)], by omega, by omega, ⟨⟨trivial, trivial, trivial, trivial, trivial, trivial, ⟨rfl, rfl, rfl⟩, trivial, ⟨rfl, rfl, rfl⟩, trivial, ⟨rfl, rfl, rfl⟩, ⟨rfl, rfl, rfl⟩, fitT_rep _ _ rfl⟩, ⟨.inl rfl, rfl, rfl, rfl, .inl rfl, rfl, rfl, rfl, .inl rfl, rfl, rfl, rfl, .inl rfl, rfl, rfl, rfl, trivial⟩, by simp [rn, hpAt]⟩, by simp [keepIds, rn]⟩
    obtain rfl : j = M := by omega
    have hOk : hrO ⟨n, room, xs, l⟩ a ds = decide (n + (j : Int) ≤ 1000000) := by rw [hrO, h0, h1, hMe]; rfl
    have hEe : hrE ⟨n, room, xs, l⟩ a ds = ⟨n + (j : Int), room, (xs ++ ((L.take j).map Er.b)), L.drop j⟩ := by rw [hrE, hMe, hLe]
    have hMv := hM
    clear hMe
    have hnoE : ∀ h : j < L.length, L[j].p ≠ n + (j : Int) := fun h => by
      have := runE_stop (n := n) (l := L) (by rw [← hMv]; exact h)
      simp only [← hMv] at this
      exact this
    by_cases hjl : j < L.length
    · have hlt : ((j : Int) < (L.length : Int)) = True := eq_true (by omega)
      have h00 : (0 ≤ (j : Int)) = True := eq_true (by omega)
      have hrow := erRows_get L j hjl
      have q1 : (L[j].p == n + (j : Int)) = false := beq_eq_false_iff_ne.2 (hnoE hjl)
      have q2 : (L[j].p = n + (j : Int)) = False := eq_false (hnoE hjl)
      by_cases hbig : n + (j : Int) > 1000000
      · have f9 : (n + (j : Int) > 1000000) = True := eq_true hbig
        have eO : hrO ⟨n, room, xs, l⟩ a ds = false := by rw [hOk]; exact decide_eq_false (by omega)
        have eV : hrV ⟨n, room, xs, l⟩ a ds = ea0 := if_neg (by rw [eO]; decide)
        rw [eV]
        simp (maxSteps := 3000000) only [Try.f15, go12d, g_earOk, g_l1In, g_earFree, g_put12, erRows_len, rowsOf_len, ersOf_rows, bytesOf_rows, hlt, h00, hrow, q1, q2, D.toI, D.toL, f9, erRows_drop, List.append_eq, List.cons_append, List.nil_append, Bool.not_true, Bool.not_false, ↓reduceIte, Bool.false_eq_true, tYs, evL, implies_true, oMin, x_min3, oMin3, x_max, oMax, oCopy, oBin, oUn, oLoadKid, oStoreTree, oField, oExtract, oNil, oSliceQ, oSliceE, x_appendZ, oAppendZ, oSliceEnd, endMode, oLoadRow, takeCells, TS.atRow, TS.ex, treeMode, AV.isOwn, TK.isSl, nilTk, nilsB, oLenQ, oLen, nodupB, treeOf, kidAbs, kidRows, TK.isCell, D.toL, oLoad, oStore, oMake, oIndexAddr, ↓reduceIte, reduceCtorEq, Nat.reduceBEq, Nat.reduceAdd, Nat.reduceMul, Nat.reduceLT, Nat.reduceSub, Nat.reduceLeDiff, Nat.reduceEqDiff, Nat.reduceBneDiff, Int.reduceToNat, decide_eq_true_eq, decide_eq_false_iff_not, beq_iff_eq, Int.toNat_natCast, loopK_normal, loopK_exit, loopK_ret]
        (repeat (refine And.intro ?_ ?_; focus (((repeat' apply And.intro) <;> first | omega | exact rowsOf_w _ | exact erRows_w _ | exact ⟨_, rfl⟩ | (refine ⟨_, rfl, ?_⟩; first | omega | (simp only [List.length_append, rowsOf_len, erRows_len, List.length_cons, List.length_nil, marks_len, List.length_take, List.length_drop, List.length_set, List.length_map, List.length_range]; omega)) | (simp only [List.length_append, rowsOf_len, erRows_len, List.length_cons, List.length_nil, marks_len, List.length_take, List.length_drop, List.length_set, List.length_map, List.length_range]; omega) | kernel_rfl | (simp; done)); done)))
        exact ⟨_, [(0, none), (1, none)], rfl, ⟨⟨⟨rfl, rfl, rfl⟩, trivial⟩, ⟨⟨by omega, rfl⟩, rfl, rfl, rfl, ⟨by omega, rfl⟩, rfl, rfl, rfl, trivial⟩, by simp [rn, hpAt]⟩⟩
      · have f9 : (n + (j : Int) > 1000000) = False := eq_false hbig
        have eO : hrO ⟨n, room, xs, l⟩ a ds = true := by rw [hOk]; exact decide_eq_true (by omega)
        have eV : hrV ⟨n, room, xs, l⟩ a ds = ⟨n + (j : Int), room, (xs ++ ((L.take j).map Er.b)), L.drop j⟩ := by rw [hrV, if_pos eO, hEe]
        rw [eV]
        simp (maxSteps := 3000000) only [Try.f15, go12d, g_earOk, g_l1In, g_earFree, g_put12, erRows_len, rowsOf_len, ersOf_rows, bytesOf_rows, hlt, h00, hrow, q1, q2, D.toI, D.toL, f9, erRows_drop, List.append_eq, List.cons_append, List.nil_append, Bool.not_true, Bool.not_false, ↓reduceIte, Bool.false_eq_true, tYs, evL, implies_true, oMin, x_min3, oMin3, x_max, oMax, oCopy, oBin, oUn, oLoadKid, oStoreTree, oField, oExtract, oNil, oSliceQ, oSliceE, x_appendZ, oAppendZ, oSliceEnd, endMode, oLoadRow, takeCells, TS.atRow, TS.ex, treeMode, AV.isOwn, TK.isSl, nilTk, nilsB, oLenQ, oLen, nodupB, treeOf, kidAbs, kidRows, TK.isCell, D.toL, oLoad, oStore, oMake, oIndexAddr, ↓reduceIte, reduceCtorEq, Nat.reduceBEq, Nat.reduceAdd, Nat.reduceMul, Nat.reduceLT, Nat.reduceSub, Nat.reduceLeDiff, Nat.reduceEqDiff, Nat.reduceBneDiff, Int.reduceToNat, decide_eq_true_eq, decide_eq_false_iff_not, beq_iff_eq, Int.toNat_natCast, loopK_normal, loopK_exit, loopK_ret]
        (repeat (refine And.intro ?_ ?_; focus (((repeat' apply And.intro) <;> first | omega | exact rowsOf_w _ | exact erRows_w _ | exact ⟨_, rfl⟩ | (refine ⟨_, rfl, ?_⟩; first | omega | (simp only [List.length_append, rowsOf_len, erRows_len, List.length_cons, List.length_nil, marks_len, List.length_take, List.length_drop, List.length_set, List.length_map, List.length_range]; omega)) | (simp only [List.length_append, rowsOf_len, erRows_len, List.length_cons, List.length_nil, marks_len, List.length_take, List.length_drop, List.length_set, List.length_map, List.length_range]; omega) | kernel_rfl | (simp; done)); done)))
        exact ⟨_, [(0, some _), (1, some _)], rfl, ⟨⟨⟨rfl, rfl, rfl⟩, trivial⟩, ⟨.inl rfl, rfl, rfl, rfl, .inl rfl, rfl, rfl, rfl, trivial⟩, by simp [rn, hpAt]⟩⟩
    · have hlt : ((j : Int) < (L.length : Int)) = False := eq_false (by omega)
      by_cases hbig : n + (j : Int) > 1000000
      · have f9 : (n + (j : Int) > 1000000) = True := eq_true hbig
        have eO : hrO ⟨n, room, xs, l⟩ a ds = false := by rw [hOk]; exact decide_eq_false (by omega)
        have eV : hrV ⟨n, room, xs, l⟩ a ds = ea0 := if_neg (by rw [eO]; decide)
        rw [eV]
        simp (maxSteps := 3000000) only [Try.f15, go12d, g_earOk, g_l1In, g_earFree, g_put12, erRows_len, rowsOf_len, ersOf_rows, bytesOf_rows, hlt, f9, erRows_drop, List.append_eq, List.cons_append, List.nil_append, Bool.not_true, Bool.not_false, ↓reduceIte, Bool.false_eq_true, tYs, evL, implies_true, oMin, x_min3, oMin3, x_max, oMax, oCopy, oBin, oUn, oLoadKid, oStoreTree, oField, oExtract, oNil, oSliceQ, oSliceE, x_appendZ, oAppendZ, oSliceEnd, endMode, oLoadRow, takeCells, TS.atRow, TS.ex, treeMode, AV.isOwn, TK.isSl, nilTk, nilsB, oLenQ, oLen, nodupB, treeOf, kidAbs, kidRows, TK.isCell, D.toL, oLoad, oStore, oMake, oIndexAddr, ↓reduceIte, reduceCtorEq, Nat.reduceBEq, Nat.reduceAdd, Nat.reduceMul, Nat.reduceLT, Nat.reduceSub, Nat.reduceLeDiff, Nat.reduceEqDiff, Nat.reduceBneDiff, Int.reduceToNat, decide_eq_true_eq, decide_eq_false_iff_not, beq_iff_eq, Int.toNat_natCast, loopK_normal, loopK_exit, loopK_ret]
        (repeat (refine And.intro ?_ ?_; focus (((repeat' apply And.intro) <;> first | omega | exact rowsOf_w _ | exact erRows_w _ | exact ⟨_, rfl⟩ | (refine ⟨_, rfl, ?_⟩; first | omega | (simp only [List.length_append, rowsOf_len, erRows_len, List.length_cons, List.length_nil, marks_len, List.length_take, List.length_drop, List.length_set, List.length_map, List.length_range]; omega)) | (simp only [List.length_append, rowsOf_len, erRows_len, List.length_cons, List.length_nil, marks_len, List.length_take, List.length_drop, List.length_set, List.length_map, List.length_range]; omega) | kernel_rfl | (simp; done)); done)))
        exact ⟨_, [(0, none), (1, none)], rfl, ⟨⟨⟨rfl, rfl, rfl⟩, trivial⟩, ⟨⟨by omega, rfl⟩, rfl, rfl, rfl, ⟨by omega, rfl⟩, rfl, rfl, rfl, trivial⟩, by simp [rn, hpAt]⟩⟩
      · have f9 : (n + (j : Int) > 1000000) = False := eq_false hbig
        have eO : hrO ⟨n, room, xs, l⟩ a ds = true := by rw [hOk]; exact decide_eq_true (by omega)
        have eV : hrV ⟨n, room, xs, l⟩ a ds = ⟨n + (j : Int), room, (xs ++ ((L.take j).map Er.b)), L.drop j⟩ := by rw [hrV, if_pos eO, hEe]
        rw [eV]
        simp (maxSteps := 3000000) only [Try.f15, go12d, g_earOk, g_l1In, g_earFree, g_put12, erRows_len, rowsOf_len, ersOf_rows, bytesOf_rows, hlt, f9, erRows_drop, List.append_eq, List.cons_append, List.nil_append, Bool.not_true, Bool.not_false, ↓reduceIte, Bool.false_eq_true, tYs, evL, implies_true, oMin, x_min3, oMin3, x_max, oMax, oCopy, oBin, oUn, oLoadKid, oStoreTree, oField, oExtract, oNil, oSliceQ, oSliceE, x_appendZ, oAppendZ, oSliceEnd, endMode, oLoadRow, takeCells, TS.atRow, TS.ex, treeMode, AV.isOwn, TK.isSl, nilTk, nilsB, oLenQ, oLen, nodupB, treeOf, kidAbs, kidRows, TK.isCell, D.toL, oLoad, oStore, oMake, oIndexAddr, ↓reduceIte, reduceCtorEq, Nat.reduceBEq, Nat.reduceAdd, Nat.reduceMul, Nat.reduceLT, Nat.reduceSub, Nat.reduceLeDiff, Nat.reduceEqDiff, Nat.reduceBneDiff, Int.reduceToNat, decide_eq_true_eq, decide_eq_false_iff_not, beq_iff_eq, Int.toNat_natCast, loopK_normal, loopK_exit, loopK_ret]
        (repeat (refine And.intro ?_ ?_; focus (((repeat' apply And.intro) <;> first | omega | exact rowsOf_w _ | exact erRows_w _ | exact ⟨_, rfl⟩ | (refine ⟨_, rfl, ?_⟩; first | omega | (simp only [List.length_append, rowsOf_len, erRows_len, List.length_cons, List.length_nil, marks_len, List.length_take, List.length_drop, List.length_set, List.length_map, List.length_range]; omega)) | (simp only [List.length_append, rowsOf_len, erRows_len, List.length_cons, List.length_nil, marks_len, List.length_take, List.length_drop, List.length_set, List.length_map, List.length_range]; omega) | kernel_rfl | (simp; done)); done)))
        exact ⟨_, [(0, some _), (1, some _)], rfl, ⟨⟨⟨rfl, rfl, rfl⟩, trivial⟩, ⟨.inl rfl, rfl, rfl, rfl, .inl rfl, rfl, rfl, rfl, trivial⟩, by simp [rn, hpAt]⟩⟩
  · cases hg
end Go.Proofs.Ytkfjaeoehhakpaa
