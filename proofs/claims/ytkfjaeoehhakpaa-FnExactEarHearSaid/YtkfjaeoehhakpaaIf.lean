import Derived.Test.YtkfjaeoehhakpaaIe
set_option linter.unusedVariables false
set_option linter.unusedSimpArgs false
namespace Go.Proofs.Ytkfjaeoehhakpaa
open Go.RowKit
set_option linter.unusedSimpArgs false
def rnV (e : Ea) : List Rg := if eaB e = true then rnK e.fr e.fr.length else []
theorem rnK_zero {l : List Er} {k : Nat} (hk : k < l.length) (h : (rnK l k).length = 0) : rnK l (k + 1) = rnK l k ++ [⟨l[k].p, l[k].p + 1⟩] := by
  have e : rnK l k = [] := List.eq_nil_of_length_eq_zero h
  have eg : l.getD k er0 = l[k] := by rw [List.getD_eq_getElem?_getD, List.getElem?_eq_getElem hk]; rfl
  rw [rnK, e, eg]; rfl
theorem rnK_get {l : List Er} {k : Nat} (h : 0 < (rnK l k).length) : (rnK l k).getLast? = some ((rnK l k)[(rnK l k).length - 1]'(by omega)) := by
  rw [List.getLast?_eq_getElem?, List.getElem?_eq_getElem (by omega)]
theorem rnK_more {l : List Er} {k : Nat} (hk : k < l.length) (h : 0 < (rnK l k).length) (he : ((rnK l k)[(rnK l k).length - 1]'(by omega)).t = l[k].p) :
    rnK l (k + 1) = (rnK l k).set ((rnK l k).length - 1) ⟨((rnK l k)[(rnK l k).length - 1]'(by omega)).f, l[k].p + 1⟩ := by
  have eg : l.getD k er0 = l[k] := by rw [List.getD_eq_getElem?_getD, List.getElem?_eq_getElem hk]; rfl
  rw [rnK, rnK_get h, eg]
  dsimp only
  rw [if_pos he, he]
  rcases List.eq_nil_or_concat (rnK l k) with hz | ⟨R, r, hz⟩
  · rw [hz] at h; cases h
  · have hz' : rnK l k = R ++ [r] := by rw [hz]; simp
    simp only [hz', List.dropLast_concat, List.length_append, List.length_cons, List.length_nil, Nat.add_sub_cancel]
    rw [List.set_append_right _ _ (Nat.le_refl _), Nat.sub_self]; rfl
theorem rnK_new {l : List Er} {k : Nat} (hk : k < l.length) (h : 0 < (rnK l k).length) (he : ((rnK l k)[(rnK l k).length - 1]'(by omega)).t ≠ l[k].p) (h2 : (rnK l k).length < 2) : rnK l (k + 1) = rnK l k ++ [⟨l[k].p, l[k].p + 1⟩] := by
  have eg : l.getD k er0 = l[k] := by rw [List.getD_eq_getElem?_getD, List.getElem?_eq_getElem hk]; rfl
  rw [rnK, rnK_get h, eg]
  dsimp only
  rw [if_neg he, if_pos h2]
theorem rnK_full {l : List Er} {k : Nat} (hk : k < l.length) (h : 0 < (rnK l k).length) (he : ((rnK l k)[(rnK l k).length - 1]'(by omega)).t ≠ l[k].p) (h2 : ¬ (rnK l k).length < 2) : rnK l (k + 1) = rnK l k := by
  have eg : l.getD k er0 = l[k] := by rw [List.getD_eq_getElem?_getD, List.getElem?_eq_getElem hk]; rfl
  rw [rnK, rnK_get h, eg]
  dsimp only
  rw [if_neg he, if_neg h2]
def g_earRanges : PC := fun args => match args with
  | [.agg [.v (.int .i64 n), .v (.int .i64 room), .l _ rg, .l _ rf]] => some ((∃ xs, rg = rowsOfBytes xs ∧ xs.length ≤ 140737488355328) ∧ ∃ l, rf = erRows l ∧ l.length ≤ 1048577, .own 0, [.sl 62 2 (rgRows (rnV ⟨n, room, bytesOfRows rg, ersOf rf⟩))])
  | _ => none
def go12e : List (FuncId × Abs) := [(9, pureAbs g_earOk)]
theorem go12e_ok : ∀ p ∈ go12e, CallOk Try.prog p.1 p.2 := by
  intro p hp
  simp only [go12e, List.mem_cons, List.not_mem_nil, or_false] at hp
  rcases hp with rfl
  · exact specEarOk_ok.call
set_option maxHeartbeats 4000000 in
set_option maxRecDepth 100000 in
theorem specEarRanges_ok : PureOk Try.prog 25 g_earRanges := by
  refine PureOk.of_vc (G := go12e) go12e_ok mixed Try.func25 (by kernel_rfl) rfl ?_
  intro args cnd r bs hg hc
  unfold g_earRanges at hg
  split at hg
  · rename_i n room sg rg sf rf
    cases hg
    obtain ⟨⟨xs, rfl, hx⟩, l, rfl, hl⟩ := hc
    rw [bytesOf_rows, ersOf_rows]
    refine ⟨⟨rfl, by simpa [flatB] using rgRows_flat (rnV ⟨n, room, xs, l⟩), by simp [AV.ids, AV.ids.idsL]⟩, [.agg [.v (.int .i64 n), .v (.int .i64 room), .l 1 (rowsOfBytes xs), .l 2 (erRows l)]], rfl, fun w vs h => CvL.ok (.cons (.cons (.refl _) (.cons (.refl _) (.cons (.l _ _ _ (rowsOf_w xs)) (.cons (.l _ _ _ (erRows_w l)) .nil)))) .nil) h, ?_⟩
    rcases h0 : eaB ⟨n, room, xs, l⟩ with _ | _
    · have e : rnV ⟨n, room, xs, l⟩ = [] := if_neg (by rw [h0]; decide)
      rw [e]
      simp (maxSteps := 3000000) only [Try.f25, go12e, g_earOk, erRows_len, rowsOf_len, rgRows_len, ersOf_rows, bytesOf_rows, h0, List.append_eq, List.cons_append, List.nil_append, Bool.not_true, Bool.not_false, ↓reduceIte, Bool.false_eq_true, D.toI, D.toL, tYs, evL, implies_true, oMin, x_min3, oMin3, x_max, oMax, oCopy, oBin, oUn, oLoadKid, oStoreTree, oField, oExtract, oNil, oSliceQ, oSliceE, x_appendZ, oAppendZ, oSliceEnd, endMode, oLoadRow, takeCells, TS.atRow, TS.ex, treeMode, AV.isOwn, TK.isSl, nilTk, nilsB, oLenQ, oLen, nodupB, treeOf, kidAbs, kidRows, TK.isCell, D.toL, oLoad, oStore, oMake, oIndexAddr, ↓reduceIte, reduceCtorEq, Nat.reduceBEq, Nat.reduceAdd, Nat.reduceMul, Nat.reduceLT, Nat.reduceSub, Nat.reduceLeDiff, Nat.reduceEqDiff, Nat.reduceBneDiff, Int.reduceToNat, decide_eq_true_eq, decide_eq_false_iff_not, beq_iff_eq, Int.toNat_natCast, loopK_normal, loopK_exit, loopK_ret]
      (repeat (refine And.intro ?_ ?_; focus (((repeat' apply And.intro) <;> first | omega | exact rowsOf_w _ | exact erRows_w _ | exact ⟨_, rfl⟩ | (refine ⟨_, rfl, ?_⟩; first | omega | (simp only [List.length_append, rowsOf_len, erRows_len, List.length_cons, List.length_nil, marks_len, List.length_take, List.length_drop, List.length_set, List.length_map, List.length_range]; omega)) | (simp only [List.length_append, rowsOf_len, erRows_len, List.length_cons, List.length_nil, marks_len, List.length_take, List.length_drop, List.length_set, List.length_map, List.length_range]; omega) | kernel_rfl | (simp; done)); done)))
      exact ⟨_, [(0, some _)], rfl, ⟨⟨⟨rfl, rfl, rfl⟩, trivial⟩, ⟨.inl rfl, rfl, rfl, rfl, trivial⟩, by simp [rn, hpAt]⟩⟩
    have hV : rnV ⟨n, room, xs, l⟩ = rnK l l.length := if_pos h0
    rw [hV]
    obtain ⟨b2, b3, b4, b5, b6⟩ := eaB_iff.1 h0
    dsimp only at b2 b3 b4 b5 b6
    have hF : eaF ⟨n, room, xs, l⟩ = room - (xs.length : Int) := rfl
    simp (maxSteps := 3000000) only [Try.f25, go12e, g_earOk, erRows_len, rowsOf_len, rgRows_len, ersOf_rows, bytesOf_rows, h0, List.append_eq, List.cons_append, List.nil_append, Bool.not_true, Bool.not_false, ↓reduceIte, Bool.false_eq_true, D.toI, D.toL, tYs, evL, implies_true, oMin, x_min3, oMin3, x_max, oMax, oCopy, oBin, oUn, oLoadKid, oStoreTree, oField, oExtract, oNil, oSliceQ, oSliceE, x_appendZ, oAppendZ, oSliceEnd, endMode, oLoadRow, takeCells, TS.atRow, TS.ex, treeMode, AV.isOwn, TK.isSl, nilTk, nilsB, oLenQ, oLen, nodupB, treeOf, kidAbs, kidRows, TK.isCell, D.toL, oLoad, oStore, oMake, oIndexAddr, ↓reduceIte, reduceCtorEq, Nat.reduceBEq, Nat.reduceAdd, Nat.reduceMul, Nat.reduceLT, Nat.reduceSub, Nat.reduceLeDiff, Nat.reduceEqDiff, Nat.reduceBneDiff, Int.reduceToNat, decide_eq_true_eq, decide_eq_false_iff_not, beq_iff_eq, Int.toNat_natCast, loopK_normal, loopK_exit, loopK_ret]
    (repeat (refine And.intro ?_ ?_; focus (((repeat' apply And.intro) <;> first | omega | exact rowsOf_w _ | exact erRows_w _ | exact ⟨_, rfl⟩ | (refine ⟨_, rfl, ?_⟩; first | omega | (simp only [List.length_append, rowsOf_len, erRows_len, List.length_cons, List.length_nil, marks_len, List.length_take, List.length_drop, List.length_set, List.length_map, List.length_range]; omega)) | (simp only [List.length_append, rowsOf_len, erRows_len, List.length_cons, List.length_nil, marks_len, List.length_take, List.length_drop, List.length_set, List.length_map, List.length_range]; omega) | kernel_rfl | (simp; done)); done)))
    refine e_loop _ _ _ _ _ _ _ _ (fun k : Nat => [.any, .ptr 0 0, .any, .own 1, .v (.int .i64 (k : Int))] ++ List.replicate (Try.f25.ntmps - 5) .any) (fun k => [(0, .var 30 [.v (.int .i64 n), .v (.int .i64 room), .l 1 (rowsOfBytes xs), .l 2 (erRows l)]), (1, .sl 62 2 (rgRows (rnK l k)))]) (fun k => k ≤ l.length) (fun k => l.length - k) 2 (fun k => by simp) ?_ fun k hk' => ?_
    · exact ⟨0, [(0, some _), (1, some _)], Nat.zero_le _, ⟨⟨trivial, ⟨rfl, rfl, rfl⟩, trivial, ⟨rfl, rfl, rfl⟩, ⟨rfl, rfl, rfl⟩, fitT_rep _ _ rfl⟩, ⟨.inl rfl, rfl, rfl, rfl, .inl rfl, rfl, rfl, rfl, trivial⟩, by simp [rn, hpAt]⟩, by simp [keepIds]⟩
    have hk1 : k ≤ l.length := hk'
    have w2 : IntKind.i64.wrap ((k : Int) + 1) = ((k + 1 : Nat) : Int) := by rw [wrap_id] <;> omega
    by_cases hk : k < l.length
    · have hrow := erRows_get l k hk
      have hlt : ((k : Int) < (l.length : Int)) = True := eq_true (by omega)
      have h00 : (0 ≤ (k : Int)) = True := eq_true (by omega)
      have hpb := b5 l[k] (List.getElem_mem hk)
      rw [hF] at hpb
      have v1 : IntKind.i64.wrap (l[k].p + 1) = l[k].p + 1 := wrap_id (by omega) (by omega)
      have hall := rnK_all (n := n) b6 (fun x hx => (b5 x hx).1) k (by omega)
      have hl2 := hall.2.2.1
      by_cases hz : (rnK l k).length = 0
      · have hzi : (((rnK l k).length : Nat) : Int) = 0 := by omega
        have v2 : IntKind.i64.wrap (((rnK l k).length : Int) - 1) = -1 := by rw [hzi]; rfl
        have f1 : ((-1 : Int) ≥ 0) = False := eq_false (by omega)
        have f2 : (((rnK l k).length : Int) < 2) = True := eq_true (by omega)
        have hnx : rgRows (rnK l k) ++ [[.v (.int .i64 l[k].p), .v (.int .i64 (l[k].p + 1))]] = rgRows (rnK l (k + 1)) := by rw [rnK_zero hk hz, ← rgRows_app]; rfl
        simp (maxSteps := 3000000) only [Try.f25, go12e, g_earOk, erRows_len, rowsOf_len, rgRows_len, ersOf_rows, bytesOf_rows, hrow, hlt, h00, w2, v1, v2, f1, f2, hnx, List.append_eq, List.cons_append, List.nil_append, Bool.not_true, Bool.not_false, ↓reduceIte, Bool.false_eq_true, D.toI, D.toL, tYs, evL, implies_true, oMin, x_min3, oMin3, x_max, oMax, oCopy, oBin, oUn, oLoadKid, oStoreTree, oField, oExtract, oNil, oSliceQ, oSliceE, x_appendZ, oAppendZ, oSliceEnd, endMode, oLoadRow, takeCells, TS.atRow, TS.ex, treeMode, AV.isOwn, TK.isSl, nilTk, nilsB, oLenQ, oLen, nodupB, treeOf, kidAbs, kidRows, TK.isCell, D.toL, oLoad, oStore, oMake, oIndexAddr, ↓reduceIte, reduceCtorEq, Nat.reduceBEq, Nat.reduceAdd, Nat.reduceMul, Nat.reduceLT, Nat.reduceSub, Nat.reduceLeDiff, Nat.reduceEqDiff, Nat.reduceBneDiff, Int.reduceToNat, decide_eq_true_eq, decide_eq_false_iff_not, beq_iff_eq, Int.toNat_natCast, loopK_normal, loopK_exit, loopK_ret]
        clear hnx
        (repeat (refine And.intro ?_ ?_; focus (((repeat' apply And.intro) <;> first | omega | exact rowsOf_w _ | exact erRows_w _ | exact ⟨_, rfl⟩ | (refine ⟨_, rfl, ?_⟩; first | omega | (simp only [List.length_append, rowsOf_len, erRows_len, List.length_cons, List.length_nil, marks_len, List.length_take, List.length_drop, List.length_set, List.length_map, List.length_range]; omega)) | (simp only [List.length_append, rowsOf_len, erRows_len, List.length_cons, List.length_nil, marks_len, List.length_take, List.length_drop, List.length_set, List.length_map, List.length_range]; omega) | kernel_rfl | (simp; done)); done)))
        exact ⟨k + 1, [(0, some 0), (1, some _)], by omega, by omega, ⟨⟨trivial, ⟨rfl, rfl, rfl⟩, trivial, ⟨rfl, rfl, rfl⟩, ⟨rfl, rfl, rfl⟩, fitT_rep _ _ rfl⟩, ⟨.inl rfl, rfl, rfl, rfl, .inl rfl, rfl, rfl, rfl, trivial⟩, by simp [rn, hpAt]⟩, by simp [keepIds, rn]⟩
      · have hpos : 0 < (rnK l k).length := by omega
        obtain ⟨m, hm⟩ : ∃ m, m = (rnK l k).length - 1 := ⟨_, rfl⟩
        have hml : m < (rnK l k).length := by omega
        have v2 : IntKind.i64.wrap (((rnK l k).length : Int) - 1) = (m : Int) := by rw [wrap_id] <;> omega
        have f1 : ((m : Int) ≥ 0) = True := eq_true (by omega)
        have f3 : ((m : Int) < ((rnK l k).length : Int)) = True := eq_true (by omega)
        have f4 : (0 ≤ (m : Int)) = True := eq_true (by omega)
        have hrow2 := rgRows_get (rnK l k) m hml
        have hmt : (rnK l k)[(rnK l k).length - 1]'(by omega) = (rnK l k)[m] := by simp only [hm]
        by_cases he : (rnK l k)[m].t = l[k].p
        · have g1 : ((rnK l k)[m].t = l[k].p) = True := eq_true he
          have g2 : ((rnK l k)[m].t == l[k].p) = true := beq_iff_eq.2 he
          have v3 : IntKind.i64.wrap ((rnK l k)[m].t + 1) = l[k].p + 1 := by rw [he, v1]
          have hnx : (rgRows (rnK l k)).set m [.v (.int .i64 (rnK l k)[m].f), .v (.int .i64 (l[k].p + 1))] = rgRows (rnK l (k + 1)) := by
            have hz := rgRows_set (rnK l k) m ⟨(rnK l k)[m].f, l[k].p + 1⟩
            have h2 := rnK_more hk hpos (by rw [hmt]; exact he)
            rw [hmt, ← hm] at h2
            rw [h2]; exact hz
          simp (maxSteps := 3000000) only [Try.f25, go12e, g_earOk, erRows_len, rowsOf_len, rgRows_len, ersOf_rows, bytesOf_rows, hrow, hrow2, hlt, h00, w2, v1, v2, v3, f1, f3, f4, g1, g2, hnx, List.append_eq, List.cons_append, List.nil_append, Bool.not_true, Bool.not_false, ↓reduceIte, Bool.false_eq_true, D.toI, D.toL, tYs, evL, implies_true, oMin, x_min3, oMin3, x_max, oMax, oCopy, oBin, oUn, oLoadKid, oStoreTree, oField, oExtract, oNil, oSliceQ, oSliceE, x_appendZ, oAppendZ, oSliceEnd, endMode, oLoadRow, takeCells, TS.atRow, TS.ex, treeMode, AV.isOwn, TK.isSl, nilTk, nilsB, oLenQ, oLen, nodupB, treeOf, kidAbs, kidRows, TK.isCell, D.toL, oLoad, oStore, oMake, oIndexAddr, ↓reduceIte, reduceCtorEq, Nat.reduceBEq, Nat.reduceAdd, Nat.reduceMul, Nat.reduceLT, Nat.reduceSub, Nat.reduceLeDiff, Nat.reduceEqDiff, Nat.reduceBneDiff, Int.reduceToNat, decide_eq_true_eq, decide_eq_false_iff_not, beq_iff_eq, Int.toNat_natCast, loopK_normal, loopK_exit, loopK_ret]
          clear hnx
          (repeat (refine And.intro ?_ ?_; focus (((repeat' apply And.intro) <;> first | omega | exact rowsOf_w _ | exact erRows_w _ | exact ⟨_, rfl⟩ | (refine ⟨_, rfl, ?_⟩; first | omega | (simp only [List.length_append, rowsOf_len, erRows_len, List.length_cons, List.length_nil, marks_len, List.length_take, List.length_drop, List.length_set, List.length_map, List.length_range]; omega)) | (simp only [List.length_append, rowsOf_len, erRows_len, List.length_cons, List.length_nil, marks_len, List.length_take, List.length_drop, List.length_set, List.length_map, List.length_range]; omega) | kernel_rfl | (simp; done)); done)))
          exact ⟨k + 1, [(0, some 0), (1, some _)], by omega, by omega, ⟨⟨trivial, ⟨rfl, rfl, rfl⟩, trivial, ⟨rfl, rfl, rfl⟩, ⟨rfl, rfl, rfl⟩, fitT_rep _ _ rfl⟩, ⟨.inl rfl, rfl, rfl, rfl, .inl rfl, rfl, rfl, rfl, trivial⟩, by simp [rn, hpAt]⟩, by simp [keepIds, rn]⟩
        · have g1 : ((rnK l k)[m].t = l[k].p) = False := eq_false he
          have g2 : ((rnK l k)[m].t == l[k].p) = false := beq_eq_false_iff_ne.2 he
          by_cases h2 : (rnK l k).length < 2
          · have f2 : (((rnK l k).length : Int) < 2) = True := eq_true (by omega)
            have hnx : rgRows (rnK l k) ++ [[.v (.int .i64 l[k].p), .v (.int .i64 (l[k].p + 1))]] = rgRows (rnK l (k + 1)) := by rw [rnK_new hk hpos (by rw [hmt]; exact he) h2, ← rgRows_app]; rfl
            simp (maxSteps := 3000000) only [Try.f25, go12e, g_earOk, erRows_len, rowsOf_len, rgRows_len, ersOf_rows, bytesOf_rows, hrow, hrow2, hlt, h00, w2, v1, v2, f1, f2, f3, f4, g1, g2, hnx, List.append_eq, List.cons_append, List.nil_append, Bool.not_true, Bool.not_false, ↓reduceIte, Bool.false_eq_true, D.toI, D.toL, tYs, evL, implies_true, oMin, x_min3, oMin3, x_max, oMax, oCopy, oBin, oUn, oLoadKid, oStoreTree, oField, oExtract, oNil, oSliceQ, oSliceE, x_appendZ, oAppendZ, oSliceEnd, endMode, oLoadRow, takeCells, TS.atRow, TS.ex, treeMode, AV.isOwn, TK.isSl, nilTk, nilsB, oLenQ, oLen, nodupB, treeOf, kidAbs, kidRows, TK.isCell, D.toL, oLoad, oStore, oMake, oIndexAddr, ↓reduceIte, reduceCtorEq, Nat.reduceBEq, Nat.reduceAdd, Nat.reduceMul, Nat.reduceLT, Nat.reduceSub, Nat.reduceLeDiff, Nat.reduceEqDiff, Nat.reduceBneDiff, Int.reduceToNat, decide_eq_true_eq, decide_eq_false_iff_not, beq_iff_eq, Int.toNat_natCast, loopK_normal, loopK_exit, loopK_ret]
            clear hnx
            (repeat (refine And.intro ?_ ?_; focus (((repeat' apply And.intro) <;> first | omega | exact rowsOf_w _ | exact erRows_w _ | exact ⟨_, rfl⟩ | (refine ⟨_, rfl, ?_⟩; first | omega | (simp only [List.length_append, rowsOf_len, erRows_len, List.length_cons, List.length_nil, marks_len, List.length_take, List.length_drop, List.length_set, List.length_map, List.length_range]; omega)) | (simp only [List.length_append, rowsOf_len, erRows_len, List.length_cons, List.length_nil, marks_len, List.length_take, List.length_drop, List.length_set, List.length_map, List.length_range]; omega) | kernel_rfl | (simp; done)); done)))
            exact ⟨k + 1, [(0, some 0), (1, some _)], by omega, by omega, ⟨⟨trivial, ⟨rfl, rfl, rfl⟩, trivial, ⟨rfl, rfl, rfl⟩, ⟨rfl, rfl, rfl⟩, fitT_rep _ _ rfl⟩, ⟨.inl rfl, rfl, rfl, rfl, .inl rfl, rfl, rfl, rfl, trivial⟩, by simp [rn, hpAt]⟩, by simp [keepIds, rn]⟩
          · have f2 : (((rnK l k).length : Int) < 2) = False := eq_false (by omega)
            have hnx : (rnK l k) = rnK l (k + 1) := (rnK_full hk hpos (by rw [hmt]; exact he) h2).symm
            simp (maxSteps := 3000000) only [Try.f25, go12e, g_earOk, erRows_len, rowsOf_len, rgRows_len, ersOf_rows, bytesOf_rows, hrow, hrow2, hlt, h00, w2, v1, v2, f1, f2, f3, f4, g1, g2, List.append_eq, List.cons_append, List.nil_append, Bool.not_true, Bool.not_false, ↓reduceIte, Bool.false_eq_true, D.toI, D.toL, tYs, evL, implies_true, oMin, x_min3, oMin3, x_max, oMax, oCopy, oBin, oUn, oLoadKid, oStoreTree, oField, oExtract, oNil, oSliceQ, oSliceE, x_appendZ, oAppendZ, oSliceEnd, endMode, oLoadRow, takeCells, TS.atRow, TS.ex, treeMode, AV.isOwn, TK.isSl, nilTk, nilsB, oLenQ, oLen, nodupB, treeOf, kidAbs, kidRows, TK.isCell, D.toL, oLoad, oStore, oMake, oIndexAddr, ↓reduceIte, reduceCtorEq, Nat.reduceBEq, Nat.reduceAdd, Nat.reduceMul, Nat.reduceLT, Nat.reduceSub, Nat.reduceLeDiff, Nat.reduceEqDiff, Nat.reduceBneDiff, Int.reduceToNat, decide_eq_true_eq, decide_eq_false_iff_not, beq_iff_eq, Int.toNat_natCast, loopK_normal, loopK_exit, loopK_ret]
            (repeat (refine And.intro ?_ ?_; focus (((repeat' apply And.intro) <;> first | omega | exact rowsOf_w _ | exact erRows_w _ | exact ⟨_, rfl⟩ | (refine ⟨_, rfl, ?_⟩; first | omega | (simp only [List.length_append, rowsOf_len, erRows_len, List.length_cons, List.length_nil, marks_len, List.length_take, List.length_drop, List.length_set, List.length_map, List.length_range]; omega)) | (simp only [List.length_append, rowsOf_len, erRows_len, List.length_cons, List.length_nil, marks_len, List.length_take, List.length_drop, List.length_set, List.length_map, List.length_range]; omega) | kernel_rfl | (simp; done)); done)))
            exact ⟨k + 1, [(0, some 0), (1, some _)], by omega, by omega, ⟨⟨trivial, ⟨rfl, rfl, rfl⟩, trivial, ⟨rfl, rfl, rfl⟩, ⟨rfl, rfl, rfl⟩, fitT_rep _ _ rfl⟩, ⟨.inl rfl, rfl, rfl, rfl, .inl (congrArg (fun z => Blk.sl 62 2 (rgRows z)) hnx), rfl, rfl, rfl, trivial⟩, by simp [rn, hpAt]⟩, by simp [keepIds, rn]⟩
    · have hlt : ((k : Int) < (l.length : Int)) = False := eq_false (by omega)
      obtain rfl : k = l.length := by omega
      simp (maxSteps := 3000000) only [Try.f25, go12e, g_earOk, erRows_len, rowsOf_len, rgRows_len, ersOf_rows, bytesOf_rows, hlt, w2, List.append_eq, List.cons_append, List.nil_append, Bool.not_true, Bool.not_false, ↓reduceIte, Bool.false_eq_true, D.toI, D.toL, tYs, evL, implies_true, oMin, x_min3, oMin3, x_max, oMax, oCopy, oBin, oUn, oLoadKid, oStoreTree, oField, oExtract, oNil, oSliceQ, oSliceE, x_appendZ, oAppendZ, oSliceEnd, endMode, oLoadRow, takeCells, TS.atRow, TS.ex, treeMode, AV.isOwn, TK.isSl, nilTk, nilsB, oLenQ, oLen, nodupB, treeOf, kidAbs, kidRows, TK.isCell, D.toL, oLoad, oStore, oMake, oIndexAddr, ↓reduceIte, reduceCtorEq, Nat.reduceBEq, Nat.reduceAdd, Nat.reduceMul, Nat.reduceLT, Nat.reduceSub, Nat.reduceLeDiff, Nat.reduceEqDiff, Nat.reduceBneDiff, Int.reduceToNat, decide_eq_true_eq, decide_eq_false_iff_not, beq_iff_eq, Int.toNat_natCast, loopK_normal, loopK_exit, loopK_ret]
      exact ⟨_, [(0, some _)], rfl, ⟨⟨⟨rfl, rfl, rfl⟩, trivial⟩, ⟨.inl rfl, rfl, rfl, rfl, trivial⟩, by simp [rn, hpAt]⟩⟩
  · cases hg
end Go.Proofs.Ytkfjaeoehhakpaa
