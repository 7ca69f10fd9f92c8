import Derived.Test.YtegffkmakkccaaaKy
import Derived.Test.YtegffkmakkccaaaKi
import Derived.Test.YtegffkmakkccaaaHa
set_option linter.unusedVariables false
set_option linter.unusedSimpArgs false
namespace Go.Proofs.Ytegffkmakkccaaa
open Go.RowKit
set_option linter.unusedSimpArgs false
theorem tr_few (net : List St) (n : Int) (p : Pk) : (trV net n p).arr.length ≤ 1048576 ∧ (trV net n p).nts.length ≤ 1048576 := by
  cases hb : trB net n p with
  | false => rw [(tr_no hb).1]; exact ⟨by decide, by decide⟩
  | true =>
    have hok : p.ok = true := by rw [trB, Bool.and_eq_true] at hb; exact hb.2
    rw [(tr_yes hb).1]
    have h1 := tr_len net (trS n.toNat p) (tvT net (trS n.toNat p))
    have h2 := tr_bd net n.toNat hok
    have e1 : (trS n.toNat p).arr.length = 0 := rfl
    have e2 : (trS n.toNat p).nts.length = 0 := rfl
    exact ⟨by omega, by omega⟩
theorem less_take {N : List St} {k : Nat} (hk : k < N.length) : lessN (N.take (k + 1)) = lessN (N.take k) ++ [lessS N[k]] := by
  rw [lessN, lessN, List.take_add_one, List.getElem?_eq_getElem hk, List.map_append]; rfl
def llw : List (FuncId × Abs) := [(13, pureAbs g_alive), (37, pureAbs g_samePackets), (33, pureAbs g_netOk), (34, pureAbs g_netOk), (35, pureAbs g_routesLess), (36, frzAbs g_travelD), (32, ownAbs (ocOf g_drawWy))]
theorem llw_ok : ∀ p ∈ llw, CallOk Try.prog p.1 p.2 := by
  intro p hp
  simp only [llw, List.mem_cons, List.not_mem_nil, or_false] at hp
  rcases hp with rfl | rfl | rfl | rfl | rfl | rfl | rfl
  · exact alive_ok.call
  · exact samePackets_ok.call
  · exact implNetOk_ok.call
  · exact specNetOk_ok.call
  · exact implRoutesLess_ok.call
  · exact implTravelD_ok.callF
  · exact drawWays_ok.call
set_option maxHeartbeats 8000000 in
set_option maxRecDepth 100000 in
theorem lawWholeRoutes_ok : PureOk Try.prog 7 g_true := by
  refine PureOk.of_vc (G := llw) llw_ok mixed Try.func7 (by kernel_rfl) rfl ?_
  intro args cnd r bs hg hc
  unfold g_true at hg
  split at hg
  · rename_i sz rows
    cases hg
    obtain ⟨xs, rfl⟩ := hc
    refine ⟨⟨rfl, by simp, by simp [AV.ids, AV.ids.idsL]⟩, [.l 1 (rowsOfBytes xs)], rfl, fun w vs h => CvL.ok (.cons (.l _ _ _ (rowsOf_w xs)) .nil) h, ?_⟩
    obtain ⟨ys, hys⟩ : ∃ ys, ys = List.take 2000 xs := ⟨_, rfl⟩
    by_cases h20 : (xs.length : Int) > 1048576
    · have e20 : ((xs.length : Int) > 1048576) = True := eq_true h20
      simp (maxSteps := 3000000) only [Try.f7, llw, e20, g_alive, g_samePackets, g_netOk, g_routesLess, g_travelD, ocOf, g_drawWy, bytesOf_rows, rowsOf_len, ↓reduceIte, Bool.false_eq_true, Bool.not_true, Bool.not_false, stRows_len, stsOf_rows, rtRows_len, rtsOf_rows, pRows_len, D.toI, D.toL, tYs, evL, implies_true, oMin, oCopy, oBin, oUn, oLoadKid, oStoreTree, oField, oExtract, oNil, oSliceQ, oLoadRow, takeCells, TS.atRow, TS.ex, treeMode, AV.isOwn, TK.isSl, nilTk, nilsB, oLenQ, oLen, nodupB, treeOf, kidAbs, kidRows, TK.isCell, D.toL, oLoad, oStore, oMake, oIndexAddr, ↓reduceIte, reduceCtorEq, Nat.reduceBEq, Nat.reduceAdd, Nat.reduceMul, Nat.reduceLT, Nat.reduceSub, Nat.reduceLeDiff, Nat.reduceEqDiff, Nat.reduceBneDiff, Int.reduceToNat, decide_eq_true_eq, decide_eq_false_iff_not, beq_iff_eq, Int.toNat_natCast, loopK_normal, loopK_exit, loopK_ret, bne_self_eq_false]
      exact ⟨_, [], rfl, ⟨⟨⟨rfl, rfl, rfl⟩, trivial⟩, trivial, by simp [rn, hpAt]⟩⟩
    have e20 : ((xs.length : Int) > 1048576) = False := eq_false h20
    have hb := (netV_bd ys 0 0 (by omega)).1
    have hq := netQ_bd ys 0 0 (by omega)
    have hW := wyN_bd ys (netV_rs ys 0 0) (show netQ ys 0 0 < 100000 by omega) (netV ys 0 0).length (by omega)
    have eS : waysS ys = wyN ys (netV ys 0 0) (netQ ys 0 0) (netV ys 0 0).length := rfl
    rw [← eS] at hW
    obtain ⟨hW1, hNr, hW3, hW4⟩ := hW
    have hd : (waysP ys).d.length ≤ 60 := (sentV_q ys ((waysS ys).2 + 1) (by omega)).2.2
    obtain ⟨N, hN⟩ : ∃ N, N = (waysS ys).1 := ⟨_, rfl⟩
    have hN' := hN.symm
    rw [hN'] at hW1 hNr
    obtain ⟨F, hF⟩ : ∃ F, F = waysF ys := ⟨_, rfl⟩
    have hF' := hF.symm
    obtain ⟨V, hV⟩ : ∃ V, V = waysP ys := ⟨_, rfl⟩
    have hV' := hV.symm
    rw [hV'] at hd
    clear hN hF hV
    have hm : sMid N := ⟨by omega, fun x hx => by have := (rsB_iff.1 (hNr x hx)).1; omega⟩
    have hml : sMid (lessN N) := ⟨by rw [len_less]; omega, fun x hx => by
      obtain ⟨s, hs, rfl⟩ := List.mem_map.1 hx
      have := lessV_len (l := s.rs)
      show (lessV s.rs).length ≤ 1048576
      omega⟩
    have hless := trav_less hNr F ⟨V.f, V.t, V.pr, V.h, V.i, V.a, V.m, V.u, V.d⟩
    have hfew := tr_few N F ⟨V.f, V.t, V.pr, V.h, V.i, V.a, V.m, V.u, V.d⟩
    have hl1 : (trV (lessN N) F ⟨V.f, V.t, V.pr, V.h, V.i, V.a, V.m, V.u, V.d⟩).arr = (trV N F ⟨V.f, V.t, V.pr, V.h, V.i, V.a, V.m, V.u, V.d⟩).arr := by rw [hless.1]
    have hl2 : (trV (lessN N) F ⟨V.f, V.t, V.pr, V.h, V.i, V.a, V.m, V.u, V.d⟩).nts = (trV N F ⟨V.f, V.t, V.pr, V.h, V.i, V.a, V.m, V.u, V.d⟩).nts := by rw [hless.1]
    have hl3 : trN (lessN N) F ⟨V.f, V.t, V.pr, V.h, V.i, V.a, V.m, V.u, V.d⟩ = trN N F ⟨V.f, V.t, V.pr, V.h, V.i, V.a, V.m, V.u, V.d⟩ := hless.2
    obtain ⟨C, hC⟩ : ∃ C, C = (trV N F ⟨V.f, V.t, V.pr, V.h, V.i, V.a, V.m, V.u, V.d⟩).arr := ⟨_, rfl⟩
    have hC' := hC.symm
    obtain ⟨T, hT⟩ : ∃ T, T = (trV N F ⟨V.f, V.t, V.pr, V.h, V.i, V.a, V.m, V.u, V.d⟩).nts := ⟨_, rfl⟩
    have hT' := hT.symm
    obtain ⟨K, hK⟩ : ∃ K, K = trN N F ⟨V.f, V.t, V.pr, V.h, V.i, V.a, V.m, V.u, V.d⟩ := ⟨_, rfl⟩
    have hK' := hK.symm
    rw [hC', hT'] at hfew
    clear hless hC hT hK
    simp (maxSteps := 3000000) only [Try.f7, llw, e20, ← hys, hN', hF', hV', hC', hT', hK', hl1, hl2, hl3, Bool.not_true, g_alive, g_samePackets, g_netOk, g_routesLess, g_travelD, ocOf, g_drawWy, bytesOf_rows, rowsOf_len, ↓reduceIte, Bool.false_eq_true, Bool.not_true, Bool.not_false, stRows_len, stsOf_rows, rtRows_len, rtsOf_rows, pRows_len, D.toI, D.toL, tYs, evL, implies_true, oMin, oCopy, oBin, oUn, oLoadKid, oStoreTree, oField, oExtract, oNil, oSliceQ, oLoadRow, takeCells, TS.atRow, TS.ex, treeMode, AV.isOwn, TK.isSl, nilTk, nilsB, oLenQ, oLen, nodupB, treeOf, kidAbs, kidRows, TK.isCell, D.toL, oLoad, oStore, oMake, oIndexAddr, ↓reduceIte, reduceCtorEq, Nat.reduceBEq, Nat.reduceAdd, Nat.reduceMul, Nat.reduceLT, Nat.reduceSub, Nat.reduceLeDiff, Nat.reduceEqDiff, Nat.reduceBneDiff, Int.reduceToNat, decide_eq_true_eq, decide_eq_false_iff_not, beq_iff_eq, Int.toNat_natCast, loopK_normal, loopK_exit, loopK_ret, bne_self_eq_false]
    refine ⟨⟨xs, rfl⟩, ⟨N, rfl, hm⟩, ⟨N, rfl, hm⟩, ?_⟩
    refine e_loop _ _ _ _ _ _ _ _ (fun k : Nat => [.any, .any, .any, .l 2 (stRows N), .v (.int .i64 F), .ptr 0 0, .own 1, .v (.int .i64 (k : Int))] ++ List.replicate (Try.f7.ntmps - 8) .any) (fun k => [(0, .var 29 [.v (.int .i64 V.f), .v (.int .i64 V.t), .v (.int .i64 V.pr), .v (.int .i64 V.h), .v (.int .i64 V.i), .v (.int .i64 V.a), .v (.bool V.m), .v (.bool V.u), .l 1 (rowsOfBytes V.d)]), (1, .sl 68 2 (stRows (lessN (N.take k))))]) (fun k => k ≤ N.length) (fun k => N.length - k) 2 (fun k => by simp) ?_ fun k hk' => ?_
    · exact ⟨0, [(0, some _), (1, some _)], Nat.zero_le _, ⟨⟨trivial, trivial, trivial, ⟨rfl, rfl, rfl⟩, ⟨rfl, rfl, rfl⟩, ⟨rfl, rfl, rfl⟩, ⟨rfl, rfl, rfl⟩, ⟨rfl, rfl, rfl⟩, fitT_rep _ _ rfl⟩, ⟨.inl rfl, rfl, rfl, rfl, .inl rfl, rfl, rfl, rfl, trivial⟩, by simp [rn, hpAt]⟩, by simp [keepIds]⟩
    have hk1 : k ≤ N.length := hk'
    have w2 : IntKind.i64.wrap ((k : Int) + 1) = ((k + 1 : Nat) : Int) := by rw [wrap_id] <;> omega
    by_cases hk : k < N.length
    · have c1 : ((k : Int) < (N.length : Int)) = True := eq_true (by omega)
      have c0 : (0 ≤ (k : Int)) = True := eq_true (by omega)
      have hrow := stRows_get N k hk
      have hr8 := (rsB_iff.1 (hNr N[k] (List.getElem_mem hk))).1
      have hcl : (stRows (lessN (N.take k))).length = k := by rw [stRows_len, len_less, List.length_take]; omega
      have e1 : stRows (lessN (N.take k)) ++ [[D.v (.int .i64 N[k].a), D.l 4 (rtRows (lessV N[k].rs))]] = stRows (lessN (N.take (k + 1))) := by
        rw [less_take hk]
        exact stRows_app _ [lessS N[k]]
      simp (maxSteps := 3000000) only [Try.f7, llw, e20, ← hys, hN', hF', hV', hC', hT', hK', hl1, hl2, hl3, c1, c0, hrow, stRow, w2, e1, hcl, g_alive, g_samePackets, g_netOk, g_routesLess, g_travelD, ocOf, g_drawWy, bytesOf_rows, rowsOf_len, ↓reduceIte, Bool.false_eq_true, Bool.not_true, Bool.not_false, stRows_len, stsOf_rows, rtRows_len, rtsOf_rows, pRows_len, D.toI, D.toL, tYs, evL, implies_true, oMin, oCopy, oBin, oUn, oLoadKid, oStoreTree, oField, oExtract, oNil, oSliceQ, oLoadRow, takeCells, TS.atRow, TS.ex, treeMode, AV.isOwn, TK.isSl, nilTk, nilsB, oLenQ, oLen, nodupB, treeOf, kidAbs, kidRows, TK.isCell, D.toL, oLoad, oStore, oMake, oIndexAddr, ↓reduceIte, reduceCtorEq, Nat.reduceBEq, Nat.reduceAdd, Nat.reduceMul, Nat.reduceLT, Nat.reduceSub, Nat.reduceLeDiff, Nat.reduceEqDiff, Nat.reduceBneDiff, Int.reduceToNat, decide_eq_true_eq, decide_eq_false_iff_not, beq_iff_eq, Int.toNat_natCast, loopK_normal, loopK_exit, loopK_ret, bne_self_eq_false]
      refine ⟨⟨_, rfl, by omega⟩, ⟨by omega, by omega, by simp⟩, by kernel_rfl, ?_⟩
      exact ⟨k + 1, [(0, some 0), (1, some _)], by omega, by omega, ⟨⟨trivial, trivial, trivial, ⟨rfl, rfl, rfl⟩, ⟨rfl, rfl, rfl⟩, ⟨rfl, rfl, rfl⟩, ⟨rfl, rfl, rfl⟩, ⟨rfl, rfl, rfl⟩, fitT_rep _ _ rfl⟩, ⟨.inl rfl, rfl, rfl, rfl, .inl rfl, rfl, rfl, rfl, trivial⟩, by simp [rn, hpAt]⟩, by simp [keepIds]⟩
    · have c1 : ((k : Int) < (N.length : Int)) = False := eq_false (by omega)
      rw [List.take_of_length_le (by omega)]
      simp (maxSteps := 3000000) only [Try.f7, llw, e20, ← hys, hN', hF', hV', hC', hT', hK', hl1, hl2, hl3, c1, g_alive, g_samePackets, g_netOk, g_routesLess, g_travelD, ocOf, g_drawWy, bytesOf_rows, rowsOf_len, ↓reduceIte, Bool.false_eq_true, Bool.not_true, Bool.not_false, stRows_len, stsOf_rows, rtRows_len, rtsOf_rows, pRows_len, D.toI, D.toL, tYs, evL, implies_true, oMin, oCopy, oBin, oUn, oLoadKid, oStoreTree, oField, oExtract, oNil, oSliceQ, oLoadRow, takeCells, TS.atRow, TS.ex, treeMode, AV.isOwn, TK.isSl, nilTk, nilsB, oLenQ, oLen, nodupB, treeOf, kidAbs, kidRows, TK.isCell, D.toL, oLoad, oStore, oMake, oIndexAddr, ↓reduceIte, reduceCtorEq, Nat.reduceBEq, Nat.reduceAdd, Nat.reduceMul, Nat.reduceLT, Nat.reduceSub, Nat.reduceLeDiff, Nat.reduceEqDiff, Nat.reduceBneDiff, Int.reduceToNat, decide_eq_true_eq, decide_eq_false_iff_not, beq_iff_eq, Int.toNat_natCast, loopK_normal, loopK_exit, loopK_ret, bne_self_eq_false]
      refine ⟨⟨⟨_, rfl, hm⟩, _, rfl, by omega⟩, ⟨⟨_, rfl, hml⟩, _, rfl, by omega⟩, ⟨_, rfl, rfl, hfew.1⟩, ⟨_, rfl, rfl, hfew.2⟩, ?_⟩
      exact ⟨_, [], rfl, ⟨⟨⟨rfl, rfl, rfl⟩, trivial⟩, trivial, by simp [rn, hpAt]⟩⟩
  · cases hg
theorem walk_WholeRoutes (A : Option Addr) (n c : Nat) (xs : List UInt8) (w : World) (h : Rd w w.heap.size A n (bv xs)) (hc : n ≤ c) :
    Calls Try.prog 7 #[.slice A n c] w fun e w' => e = .returned (.bool true) ∧ Below w.heap.size w w' :=
  lawWholeRoutes_ok.walk (vs := [_]) (arel_cons (.l _ _ _ (rep_of_rd h hc)) arel_nil) rfl ⟨xs, rfl⟩
end Go.Proofs.Ytegffkmakkccaaa
