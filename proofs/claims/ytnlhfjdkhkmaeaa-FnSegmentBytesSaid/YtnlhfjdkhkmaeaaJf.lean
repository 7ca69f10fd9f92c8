import Derived.Test.YtnlhfjdkhkmaeaaJe
import Derived.Test.YtnlhfjdkhkmaeaaJd
import Derived.Test.YtnlhfjdkhkmaeaaVj
set_option linter.unusedVariables false
set_option linter.unusedSimpArgs false
namespace Go.Proofs.Ytnlhfjdkhkmaeaa
open Go.RowKit
set_option linter.unusedSimpArgs false
theorem OwnOk.recastW {P : Program} {f : FuncId} {g g' : OC} (C : OwnOk P f g) (h : ∀ args B0 c r' B1 bs, g' args B0 = some (c, r', B1, bs) → ∃ r, g args B0 = some (c, r, B1, bs) ∧ Cv r r' ∧ ∀ k ∈ r'.ids, k ∈ r.ids) : OwnOk P f g' :=
  ⟨C.there, fun w F Z0 s0 args vs B0 c r' B1 bs hH hargs hlive hg hc => by
    obtain ⟨r, h1, h2, h3⟩ := h args B0 c r' B1 bs hg
    obtain ⟨⟨a1, a2, a3⟩, hcall⟩ := C.does w F Z0 s0 args vs B0 c r B1 bs hH hargs hlive h1 hc
    refine ⟨⟨a1, a2, fun k hk => a3 k (h3 k hk)⟩, hcall.mono ?_⟩
    rintro e w' ⟨v, s, Z, rfl, H, hs, hr⟩
    exact ⟨v, s, Z, rfl, H, hs, h2.ok hr⟩⟩
theorem l20Segment_ok : OwnOk Try.prog 35 g_segment := by
  refine l20SegmentW_ok.recastW fun args B0 c r' B1 bs h => ?_
  unfold g_segment at h
  split at h
  · cases h
    refine ⟨_, rfl, (.cons (.refl _) (.cons (.refl _) (.cons (.refl _) (.cons (.refl _) (.cons (.refl _) (.cons (.refl _) (.cons (.refl _) (.cons (.refl _) (.cons (.refl _) (.cons (.l _ _ _ (rgRows_w _)) (.cons (.refl _) .nil))))))))))), fun k hk => by simp [AV.ids, AV.ids.idsL] at hk⟩
  · cases h
def dsbS (xs : List UInt8) : SgW := swV xs 0 8
def dsbA (xs : List UInt8) : Int := pickV xs (dsbS xs).q 5
def dsbB (xs : List UInt8) : Int := pickV xs ((dsbS xs).q + 1) 5 + pickV xs ((dsbS xs).q + 1 + 1) 20 / 19 * 65536
def dsfS (xs : List UInt8) : SgW := swV xs 0 0
def dsfY (xs : List UInt8) : List UInt8 := sgV (dsfS xs).s 1 2
def dsfX (xs : List UInt8) : Int := pickV xs (dsfS xs).q 6
def dsfB (xs : List UInt8) : List UInt8 := if dsfX xs = 0 then (dsfY xs).set (pickV xs ((dsfS xs).q + 1) (dsfY xs).length).toNat (toU8 (pickV xs ((dsfS xs).q + 1 + 1) 256)) else if dsfX xs = 1 then (dsfY xs).take (pickV xs ((dsfS xs).q + 1) (dsfY xs).length).toNat else dsfY xs
def dsfA (xs : List UInt8) : Int := if dsfX xs = 2 then pickV xs ((dsfS xs).q + 1) 3 else 1
def dsfT (xs : List UInt8) : Int := if dsfX xs = 2 then pickV xs ((dsfS xs).q + 1 + 1) 3 else 2
theorem dsfB_len (xs : List UInt8) : (dsfB xs).length ≤ 32 := by
  have h : (dsfY xs).length ≤ 32 := sgV_le _ _ _
  unfold dsfB
  repeat' split
  all_goals (try simp only [List.length_set, List.length_take]
             omega)
def g_drawSg (n : Int) : PC := fun args => match args with
  | [.l _ rows] => some (∃ xs, rows = rowsOfBytes xs, .agg [.v (.int .i64 ((swV ((bytesOfRows rows).take 2000) 0 n).s).f), .v (.int .i64 ((swV ((bytesOfRows rows).take 2000) 0 n).s).t), .v (.int .i64 ((swV ((bytesOfRows rows).take 2000) 0 n).s).sq), .v (.int .i64 ((swV ((bytesOfRows rows).take 2000) 0 n).s).ak), .v (.int .i64 ((swV ((bytesOfRows rows).take 2000) 0 n).s).rm), .v (.bool ((swV ((bytesOfRows rows).take 2000) 0 n).s).fi), .v (.bool ((swV ((bytesOfRows rows).take 2000) 0 n).s).he), .v (.bool ((swV ((bytesOfRows rows).take 2000) 0 n).s).la), .v (.bool ((swV ((bytesOfRows rows).take 2000) 0 n).s).re), .l 2 (rgRows ((swV ((bytesOfRows rows).take 2000) 0 n).s).rs), .l 1 (rowsOfBytes ((swV ((bytesOfRows rows).take 2000) 0 n).s).d)], [])
  | _ => none
def g_drawSgb : PC := fun args => match args with
  | [.l _ rows] => some (∃ xs, rows = rowsOfBytes xs, .tup [.agg [.v (.int .i64 ((dsbS ((bytesOfRows rows).take 2000)).s).f), .v (.int .i64 ((dsbS ((bytesOfRows rows).take 2000)).s).t), .v (.int .i64 ((dsbS ((bytesOfRows rows).take 2000)).s).sq), .v (.int .i64 ((dsbS ((bytesOfRows rows).take 2000)).s).ak), .v (.int .i64 ((dsbS ((bytesOfRows rows).take 2000)).s).rm), .v (.bool ((dsbS ((bytesOfRows rows).take 2000)).s).fi), .v (.bool ((dsbS ((bytesOfRows rows).take 2000)).s).he), .v (.bool ((dsbS ((bytesOfRows rows).take 2000)).s).la), .v (.bool ((dsbS ((bytesOfRows rows).take 2000)).s).re), .l 2 (rgRows ((dsbS ((bytesOfRows rows).take 2000)).s).rs), .l 1 (rowsOfBytes ((dsbS ((bytesOfRows rows).take 2000)).s).d)], .v (.int .i64 (dsbA ((bytesOfRows rows).take 2000))), .v (.int .i64 (dsbB ((bytesOfRows rows).take 2000)))], [])
  | _ => none
def g_drawSgf : PC := fun args => match args with
  | [.l _ rows] => some (∃ xs, rows = rowsOfBytes xs, .tup [.l 1 (rowsOfBytes (dsfB ((bytesOfRows rows).take 2000))), .v (.int .i64 (dsfA ((bytesOfRows rows).take 2000))), .v (.int .i64 (dsfT ((bytesOfRows rows).take 2000)))], [])
  | _ => none
def ndsg : List (FuncId × Abs) := [(36, ownAbs g_open), (42, ownAbs g_pick), (35, ownAbs g_segment), (18, pureAbs g_segBytes)]
theorem ndsg_ok : ∀ p ∈ ndsg, CallOk Try.prog p.1 p.2 := by
  intro p hp
  simp only [ndsg, List.mem_cons, List.not_mem_nil, or_false] at hp
  rcases hp with rfl | rfl | rfl | rfl
  · exact open_ok.call
  · exact pick_ok.call
  · exact l20Segment_ok.call
  · exact specSegmentBytes_ok.call
set_option maxRecDepth 100000 in
theorem drawSegmentOk_ok : OwnOk Try.prog 11 (ocOf (g_drawSg 2)) := by
  refine OwnOk.of_vcD (G := ndsg) ndsg_ok mixed Try.func11 (by kernel_rfl) rfl ?_
  intro args cnd r bs hg hc
  unfold g_drawSg at hg
  split at hg
  · rename_i sz rows
    cases hg
    obtain ⟨xs, rfl⟩ := hc
    rw [bytesOf_rows]
    have hx : (∃ ys, rowsOfBytes (List.take 2000 xs) = rowsOfBytes ys ∧ ys.length ≤ 2000) = True := eq_true ⟨_, rfl, by rw [List.length_take]; omega⟩
    refine ⟨⟨rfl, by simp [AV.ids, AV.ids.idsL]⟩, [.l 1 (rowsOfBytes xs)], rfl, fun w Z s vs h => CvL.ok (.cons (.l _ _ _ (rowsOf_w xs)) .nil) h, ?_⟩
    simp (maxSteps := 3000000) only [Try.f11, ndsg, g_open, g_segment, bytesOf_rows, rowsOf_len, hx, tYs, evL, implies_true, oMin, x_max, oMax, oCopy, oBin, oUn, oLoadKid, oStoreTree, oField, oExtract, oNil, oSliceQ, oSliceE, x_appendZ, oAppendZ, oSliceEnd, endMode, oLoadRow, takeCells, TS.atRow, TS.ex, treeMode, AV.isOwn, TK.isSl, nilTk, nilsB, oLenQ, oLen, nodupB, treeOf, kidAbs, kidRows, TK.isCell, D.toL, oLoad, oStore, oMake, oIndexAddr, ↓reduceIte, reduceCtorEq, Nat.reduceBEq, Nat.reduceAdd, Nat.reduceMul, Nat.reduceLT, Nat.reduceSub, Nat.reduceLeDiff, Nat.reduceEqDiff, Nat.reduceBneDiff, Int.reduceToNat, decide_eq_true_eq, decide_eq_false_iff_not, beq_iff_eq, Int.toNat_natCast, doneD_ret, doneD_normal]
    (repeat (refine And.intro ?_ ?_; focus (((repeat' apply And.intro) <;> first | exact rowsOf_w _ | omega | (simp only [List.length_append, rowsOf_len, List.length_cons, List.length_nil, marks_len, List.length_take, List.length_drop, List.length_set]; omega) | exact ⟨_, rfl⟩ | (refine ⟨_, rfl, ?_⟩; omega) | (refine ⟨_, rfl, ?_⟩; simp only [List.length_append, rowsOf_len, List.length_cons, List.length_nil, marks_len, List.length_take, List.length_drop, List.length_set]; omega) | kernel_rfl | (simp; done)); done)))
    exact ⟨_, rfl, rfl⟩
  · cases hg
set_option maxRecDepth 100000 in
theorem drawSegmentLong_ok : OwnOk Try.prog 23 (ocOf (g_drawSg 9)) := by
  refine OwnOk.of_vcD (G := ndsg) ndsg_ok mixed Try.func23 (by kernel_rfl) rfl ?_
  intro args cnd r bs hg hc
  unfold g_drawSg at hg
  split at hg
  · rename_i sz rows
    cases hg
    obtain ⟨xs, rfl⟩ := hc
    rw [bytesOf_rows]
    have hx : (∃ ys, rowsOfBytes (List.take 2000 xs) = rowsOfBytes ys ∧ ys.length ≤ 2000) = True := eq_true ⟨_, rfl, by rw [List.length_take]; omega⟩
    refine ⟨⟨rfl, by simp [AV.ids, AV.ids.idsL]⟩, [.l 1 (rowsOfBytes xs)], rfl, fun w Z s vs h => CvL.ok (.cons (.l _ _ _ (rowsOf_w xs)) .nil) h, ?_⟩
    simp (maxSteps := 3000000) only [Try.f23, ndsg, g_open, g_segment, bytesOf_rows, rowsOf_len, hx, tYs, evL, implies_true, oMin, x_max, oMax, oCopy, oBin, oUn, oLoadKid, oStoreTree, oField, oExtract, oNil, oSliceQ, oSliceE, x_appendZ, oAppendZ, oSliceEnd, endMode, oLoadRow, takeCells, TS.atRow, TS.ex, treeMode, AV.isOwn, TK.isSl, nilTk, nilsB, oLenQ, oLen, nodupB, treeOf, kidAbs, kidRows, TK.isCell, D.toL, oLoad, oStore, oMake, oIndexAddr, ↓reduceIte, reduceCtorEq, Nat.reduceBEq, Nat.reduceAdd, Nat.reduceMul, Nat.reduceLT, Nat.reduceSub, Nat.reduceLeDiff, Nat.reduceEqDiff, Nat.reduceBneDiff, Int.reduceToNat, decide_eq_true_eq, decide_eq_false_iff_not, beq_iff_eq, Int.toNat_natCast, doneD_ret, doneD_normal]
    (repeat (refine And.intro ?_ ?_; focus (((repeat' apply And.intro) <;> first | exact rowsOf_w _ | omega | (simp only [List.length_append, rowsOf_len, List.length_cons, List.length_nil, marks_len, List.length_take, List.length_drop, List.length_set]; omega) | exact ⟨_, rfl⟩ | (refine ⟨_, rfl, ?_⟩; omega) | (refine ⟨_, rfl, ?_⟩; simp only [List.length_append, rowsOf_len, List.length_cons, List.length_nil, marks_len, List.length_take, List.length_drop, List.length_set]; omega) | kernel_rfl | (simp; done)); done)))
    exact ⟨_, rfl, rfl⟩
  · cases hg
set_option maxRecDepth 100000 in
theorem drawSegmentBytes_ok : OwnOk Try.prog 15 (ocOf g_drawSgb) := by
  refine OwnOk.of_vcD (G := ndsg) ndsg_ok mixed Try.func15 (by kernel_rfl) rfl ?_
  intro args cnd r bs hg hc
  unfold g_drawSgb at hg
  split at hg
  · rename_i sz rows
    cases hg
    obtain ⟨xs, rfl⟩ := hc
    rw [bytesOf_rows]
    have hx : (∃ ys, rowsOfBytes (List.take 2000 xs) = rowsOfBytes ys ∧ ys.length ≤ 2000) = True := eq_true ⟨_, rfl, by rw [List.length_take]; omega⟩
    obtain ⟨ys, hys⟩ : ∃ ys, ys = List.take 2000 xs := ⟨_, rfl⟩
    rw [← hys] at hx ⊢
    have hW := swV_q ys 0 8
    obtain ⟨q, hq⟩ : ∃ q, q = (swV ys 0 8).q := ⟨_, rfl⟩
    have hq' := hq.symm
    rw [hq'] at hW
    have a1 := pickV_nonneg ys (q + 1) 5 (by omega)
    have a2 := pickV_lt ys (q + 1) 5 (by omega)
    have a3 := pickV_nonneg ys (q + 1 + 1) 20 (by omega)
    have a4 := pickV_lt ys (q + 1 + 1) 20 (by omega)
    have hdv : (pickV ys (q + 1 + 1) 20).tdiv 19 = pickV ys (q + 1 + 1) 20 / 19 := Int.tdiv_eq_ediv_of_nonneg a3
    have w1 : IntKind.i64.wrap (pickV ys (q + 1 + 1) 20 / 19) = pickV ys (q + 1 + 1) 20 / 19 := wrap_id (by omega) (by omega)
    have w2 : IntKind.i64.wrap (pickV ys (q + 1 + 1) 20 / 19 * 65536) = pickV ys (q + 1 + 1) 20 / 19 * 65536 := wrap_id (by omega) (by omega)
    have w3 : IntKind.i64.wrap (pickV ys (q + 1) 5 + pickV ys (q + 1 + 1) 20 / 19 * 65536) = pickV ys (q + 1) 5 + pickV ys (q + 1 + 1) 20 / 19 * 65536 := wrap_id (by omega) (by omega)
    have hv : dsbB ys = pickV ys (q + 1) 5 + pickV ys (q + 1 + 1) 20 / 19 * 65536 := by rw [dsbB, dsbS, hq']
    have hv1 : dsbA ys = pickV ys q 5 := by rw [dsbA, dsbS, hq']
    rw [hv, hv1]
    refine ⟨⟨rfl, by simp [AV.ids, AV.ids.idsL]⟩, [.l 1 (rowsOfBytes xs)], rfl, fun w Z s vs h => CvL.ok (.cons (.l _ _ _ (rowsOf_w xs)) .nil) h, ?_⟩
    simp (maxSteps := 3000000) only [Try.f15, ndsg, g_open, g_segment, g_pick, bytesOf_rows, rowsOf_len, ← hys, hx, hq', hdv, w1, w2, w3, tYs, evL, implies_true, oMin, x_max, oMax, oCopy, oBin, oUn, oLoadKid, oStoreTree, oField, oExtract, oNil, oSliceQ, oSliceE, x_appendZ, oAppendZ, oSliceEnd, endMode, oLoadRow, takeCells, TS.atRow, TS.ex, treeMode, AV.isOwn, TK.isSl, nilTk, nilsB, oLenQ, oLen, nodupB, treeOf, kidAbs, kidRows, TK.isCell, D.toL, oLoad, oStore, oMake, oIndexAddr, ↓reduceIte, reduceCtorEq, Nat.reduceBEq, Nat.reduceAdd, Nat.reduceMul, Nat.reduceLT, Nat.reduceSub, Nat.reduceLeDiff, Nat.reduceEqDiff, Nat.reduceBneDiff, Int.reduceToNat, decide_eq_true_eq, decide_eq_false_iff_not, beq_iff_eq, Int.toNat_natCast, doneD_ret, doneD_normal]
    clear w1 w2 w3 hdv
    (repeat (refine And.intro ?_ ?_; focus (((repeat' apply And.intro) <;> first | exact rowsOf_w _ | omega | (simp only [List.length_append, rowsOf_len, List.length_cons, List.length_nil, marks_len, List.length_take, List.length_drop, List.length_set]; omega) | exact ⟨_, rfl⟩ | (refine ⟨_, rfl, ?_⟩; omega) | (refine ⟨_, rfl, ?_⟩; simp only [List.length_append, rowsOf_len, List.length_cons, List.length_nil, marks_len, List.length_take, List.length_drop, List.length_set]; omega) | kernel_rfl | (simp; done)); done)))
    exact ⟨_, rfl, rfl⟩
  · cases hg
set_option maxHeartbeats 4000000 in
set_option maxRecDepth 100000 in
theorem drawSegmentFrom_ok : OwnOk Try.prog 21 (ocOf g_drawSgf) := by
  refine OwnOk.of_vcD (G := ndsg) ndsg_ok mixed Try.func21 (by kernel_rfl) rfl ?_
  intro args cnd r bs hg hc
  unfold g_drawSgf at hg
  split at hg
  · rename_i sz rows
    cases hg
    obtain ⟨xs, rfl⟩ := hc
    rw [bytesOf_rows]
    have hx : (∃ ys, rowsOfBytes (List.take 2000 xs) = rowsOfBytes ys ∧ ys.length ≤ 2000) = True := eq_true ⟨_, rfl, by rw [List.length_take]; omega⟩
    obtain ⟨ys, hys⟩ : ∃ ys, ys = List.take 2000 xs := ⟨_, rfl⟩
    rw [← hys] at hx ⊢
    have hW := swV_q ys 0 0
    have hok := swV_0 ys 0 (by omega)
    have hmd := swV_mid ys 0 0 (by omega)
    have hso : sgO (swV ys 0 0).s 1 2 = true := by rw [sgO, hok]; rfl
    have hlen := sgV_len hso
    obtain ⟨l, hlr⟩ : ∃ l, l = (swV ys 0 0).s.rs := ⟨_, rfl⟩
    have hll : l.length ≤ 2 := by rw [hlr]; exact hmd.2.2.2.2.2.1
    have hdl : (swV ys 0 0).s.d.length ≤ 13 := hmd.2.2.2.2.2.2
    obtain ⟨B, hB⟩ : ∃ B, B = sgV ⟨((swV ys 0 0).s).f, ((swV ys 0 0).s).t, ((swV ys 0 0).s).sq, ((swV ys 0 0).s).ak, ((swV ys 0 0).s).rm, ((swV ys 0 0).s).fi, ((swV ys 0 0).s).he, ((swV ys 0 0).s).la, ((swV ys 0 0).s).re, ((swV ys 0 0).s).rs, ((swV ys 0 0).s).d⟩ 1 2 := ⟨_, rfl⟩
    have hBs : dsfY ys = B := hB.symm
    have hB' := hB.symm
    rw [show sgV (swV ys 0 0).s 1 2 = B from hB'] at hlen
    obtain ⟨q, hq⟩ : ∃ q, q = (swV ys 0 0).q := ⟨_, rfl⟩
    have hq' := hq.symm
    have hqs : (dsfS ys).q = q := hq'
    rw [hq'] at hW
    have k1 := pickV_nonneg ys (q + 1) B.length (by omega)
    have k2 := pickV_lt ys (q + 1) B.length (by omega)
    have hXs : dsfX ys = pickV ys q 6 := by rw [dsfX, hqs]
    have hcr : (∃ l', rgRows (swV ys 0 0).s.rs = rgRows l' ∧ l'.length ≤ 1048576) = True := eq_true ⟨_, rfl, by rw [← hlr]; omega⟩
    have hcd : (∃ zs, rowsOfBytes (swV ys 0 0).s.d = rowsOfBytes zs ∧ zs.length ≤ 140737488355328) = True := eq_true ⟨_, rfl, by omega⟩
    refine ⟨⟨rfl, by simp [AV.ids, AV.ids.idsL]⟩, [.l 1 (rowsOfBytes xs)], rfl, fun w Z s vs h => CvL.ok (.cons (.l _ _ _ (rowsOf_w xs)) .nil) h, ?_⟩
    by_cases h0 : pickV ys q 6 = 0
    · have c0 : (pickV ys q 6 = 0) = True := eq_true h0
      have hv : dsfB ys = B.set (pickV ys (q + 1) B.length).toNat (toU8 (pickV ys (q + 1 + 1) 256)) := by rw [dsfB, hXs, if_pos h0, hBs, hqs]
      have hv2 : dsfA ys = 1 := by rw [dsfA, hXs, if_neg (by omega)]
      have hv3 : dsfT ys = 2 := by rw [dsfT, hXs, if_neg (by omega)]
      rw [hv, hv2, hv3]
      simp (maxSteps := 3000000) only [Try.f21, ndsg, g_open, g_segment, g_pick, g_segBytes, bytesOf_rows, rgsOf_rows, rowsOf_len, rowsOf_take, row_toI, row_nil, row_head, rows_set, ← hys, hx, hB', hq', c0, hcr, hcd, ↓reduceIte, Bool.false_eq_true, tYs, evL, implies_true, oMin, x_max, oMax, oCopy, oBin, oUn, oLoadKid, oStoreTree, oField, oExtract, oNil, oSliceQ, oSliceE, x_appendZ, oAppendZ, oSliceEnd, endMode, oLoadRow, takeCells, TS.atRow, TS.ex, treeMode, AV.isOwn, TK.isSl, nilTk, nilsB, oLenQ, oLen, nodupB, treeOf, kidAbs, kidRows, TK.isCell, D.toL, oLoad, oStore, oMake, oIndexAddr, ↓reduceIte, reduceCtorEq, Nat.reduceBEq, Nat.reduceAdd, Nat.reduceMul, Nat.reduceLT, Nat.reduceSub, Nat.reduceLeDiff, Nat.reduceEqDiff, Nat.reduceBneDiff, Int.reduceToNat, decide_eq_true_eq, decide_eq_false_iff_not, beq_iff_eq, Int.toNat_natCast, doneD_ret, doneD_normal]
      (repeat (refine And.intro ?_ ?_; focus (((repeat' apply And.intro) <;> first | exact rowsOf_w _ | omega | (simp only [List.length_append, rowsOf_len, List.length_cons, List.length_nil, marks_len, List.length_take, List.length_drop, List.length_set]; omega) | exact ⟨_, rfl⟩ | (refine ⟨_, rfl, ?_⟩; omega) | (refine ⟨_, rfl, ?_⟩; simp only [List.length_append, rowsOf_len, List.length_cons, List.length_nil, marks_len, List.length_take, List.length_drop, List.length_set]; omega) | kernel_rfl | (simp; done)); done)))
      exact ⟨_, rfl, rfl⟩
    · have c0 : (pickV ys q 6 = 0) = False := eq_false h0
      by_cases h1 : pickV ys q 6 = 1
      · have c1 : (pickV ys q 6 = 1) = True := eq_true h1
        have hv : dsfB ys = B.take (pickV ys (q + 1) B.length).toNat := by rw [dsfB, hXs, if_neg h0, if_pos h1, hBs, hqs]
        have hv2 : dsfA ys = 1 := by rw [dsfA, hXs, if_neg (by omega)]
        have hv3 : dsfT ys = 2 := by rw [dsfT, hXs, if_neg (by omega)]
        rw [hv, hv2, hv3]
        simp (maxSteps := 3000000) only [Try.f21, ndsg, g_open, g_segment, g_pick, g_segBytes, bytesOf_rows, rgsOf_rows, rowsOf_len, rowsOf_take, row_toI, row_nil, row_head, rows_set, ← hys, hx, hB', hq', c0, c1, hcr, hcd, ↓reduceIte, Bool.false_eq_true, tYs, evL, implies_true, oMin, x_max, oMax, oCopy, oBin, oUn, oLoadKid, oStoreTree, oField, oExtract, oNil, oSliceQ, oSliceE, x_appendZ, oAppendZ, oSliceEnd, endMode, oLoadRow, takeCells, TS.atRow, TS.ex, treeMode, AV.isOwn, TK.isSl, nilTk, nilsB, oLenQ, oLen, nodupB, treeOf, kidAbs, kidRows, TK.isCell, D.toL, oLoad, oStore, oMake, oIndexAddr, ↓reduceIte, reduceCtorEq, Nat.reduceBEq, Nat.reduceAdd, Nat.reduceMul, Nat.reduceLT, Nat.reduceSub, Nat.reduceLeDiff, Nat.reduceEqDiff, Nat.reduceBneDiff, Int.reduceToNat, decide_eq_true_eq, decide_eq_false_iff_not, beq_iff_eq, Int.toNat_natCast, doneD_ret, doneD_normal]
        (repeat (refine And.intro ?_ ?_; focus (((repeat' apply And.intro) <;> first | exact rowsOf_w _ | omega | (simp only [List.length_append, rowsOf_len, List.length_cons, List.length_nil, marks_len, List.length_take, List.length_drop, List.length_set]; omega) | exact ⟨_, rfl⟩ | (refine ⟨_, rfl, ?_⟩; omega) | (refine ⟨_, rfl, ?_⟩; simp only [List.length_append, rowsOf_len, List.length_cons, List.length_nil, marks_len, List.length_take, List.length_drop, List.length_set]; omega) | kernel_rfl | (simp; done)); done)))
        refine ⟨_, rfl, ?_⟩
        show AV.tup [AV.l 1 (((rowsOfBytes B).take (pickV ys (q + 1) B.length).toNat).drop 0), _, _] = _
        rw [List.drop_zero, rowsOf_take]
        rfl
      · have c1 : (pickV ys q 6 = 1) = False := eq_false h1
        have hv : dsfB ys = B := by rw [dsfB, hXs, if_neg h0, if_neg h1, hBs]
        by_cases h2 : pickV ys q 6 = 2
        · have c2 : (pickV ys q 6 = 2) = True := eq_true h2
          have hv2 : dsfA ys = pickV ys (q + 1) 3 := by rw [dsfA, hXs, if_pos h2, hqs]
          have hv3 : dsfT ys = pickV ys (q + 1 + 1) 3 := by rw [dsfT, hXs, if_pos h2, hqs]
          rw [hv, hv2, hv3]
          simp (maxSteps := 3000000) only [Try.f21, ndsg, g_open, g_segment, g_pick, g_segBytes, bytesOf_rows, rgsOf_rows, rowsOf_len, rowsOf_take, row_toI, row_nil, row_head, rows_set, ← hys, hx, hB', hq', c0, c1, c2, hcr, hcd, ↓reduceIte, Bool.false_eq_true, tYs, evL, implies_true, oMin, x_max, oMax, oCopy, oBin, oUn, oLoadKid, oStoreTree, oField, oExtract, oNil, oSliceQ, oSliceE, x_appendZ, oAppendZ, oSliceEnd, endMode, oLoadRow, takeCells, TS.atRow, TS.ex, treeMode, AV.isOwn, TK.isSl, nilTk, nilsB, oLenQ, oLen, nodupB, treeOf, kidAbs, kidRows, TK.isCell, D.toL, oLoad, oStore, oMake, oIndexAddr, ↓reduceIte, reduceCtorEq, Nat.reduceBEq, Nat.reduceAdd, Nat.reduceMul, Nat.reduceLT, Nat.reduceSub, Nat.reduceLeDiff, Nat.reduceEqDiff, Nat.reduceBneDiff, Int.reduceToNat, decide_eq_true_eq, decide_eq_false_iff_not, beq_iff_eq, Int.toNat_natCast, doneD_ret, doneD_normal]
          (repeat (refine And.intro ?_ ?_; focus (((repeat' apply And.intro) <;> first | exact rowsOf_w _ | omega | (simp only [List.length_append, rowsOf_len, List.length_cons, List.length_nil, marks_len, List.length_take, List.length_drop, List.length_set]; omega) | exact ⟨_, rfl⟩ | (refine ⟨_, rfl, ?_⟩; omega) | (refine ⟨_, rfl, ?_⟩; simp only [List.length_append, rowsOf_len, List.length_cons, List.length_nil, marks_len, List.length_take, List.length_drop, List.length_set]; omega) | kernel_rfl | (simp; done)); done)))
          exact ⟨_, rfl, rfl⟩
        · have c2 : (pickV ys q 6 = 2) = False := eq_false h2
          have hv2 : dsfA ys = 1 := by rw [dsfA, hXs, if_neg h2]
          have hv3 : dsfT ys = 2 := by rw [dsfT, hXs, if_neg h2]
          rw [hv, hv2, hv3]
          simp (maxSteps := 3000000) only [Try.f21, ndsg, g_open, g_segment, g_pick, g_segBytes, bytesOf_rows, rgsOf_rows, rowsOf_len, rowsOf_take, row_toI, row_nil, row_head, rows_set, ← hys, hx, hB', hq', c0, c1, c2, hcr, hcd, ↓reduceIte, Bool.false_eq_true, tYs, evL, implies_true, oMin, x_max, oMax, oCopy, oBin, oUn, oLoadKid, oStoreTree, oField, oExtract, oNil, oSliceQ, oSliceE, x_appendZ, oAppendZ, oSliceEnd, endMode, oLoadRow, takeCells, TS.atRow, TS.ex, treeMode, AV.isOwn, TK.isSl, nilTk, nilsB, oLenQ, oLen, nodupB, treeOf, kidAbs, kidRows, TK.isCell, D.toL, oLoad, oStore, oMake, oIndexAddr, ↓reduceIte, reduceCtorEq, Nat.reduceBEq, Nat.reduceAdd, Nat.reduceMul, Nat.reduceLT, Nat.reduceSub, Nat.reduceLeDiff, Nat.reduceEqDiff, Nat.reduceBneDiff, Int.reduceToNat, decide_eq_true_eq, decide_eq_false_iff_not, beq_iff_eq, Int.toNat_natCast, doneD_ret, doneD_normal]
          (repeat (refine And.intro ?_ ?_; focus (((repeat' apply And.intro) <;> first | exact rowsOf_w _ | omega | (simp only [List.length_append, rowsOf_len, List.length_cons, List.length_nil, marks_len, List.length_take, List.length_drop, List.length_set]; omega) | exact ⟨_, rfl⟩ | (refine ⟨_, rfl, ?_⟩; omega) | (refine ⟨_, rfl, ?_⟩; simp only [List.length_append, rowsOf_len, List.length_cons, List.length_nil, marks_len, List.length_take, List.length_drop, List.length_set]; omega) | kernel_rfl | (simp; done)); done)))
          exact ⟨_, rfl, rfl⟩
  · cases hg
end Go.Proofs.Ytnlhfjdkhkmaeaa
