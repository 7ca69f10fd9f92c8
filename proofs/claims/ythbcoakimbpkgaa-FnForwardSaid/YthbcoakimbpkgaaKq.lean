import Derived.Test.YthbcoakimbpkgaaKi
import Derived.Test.YthbcoakimbpkgaaKl
import Derived.Test.YthbcoakimbpkgaaVi
import Derived.Test.YthbcoakimbpkgaaHa
set_option linter.unusedVariables false
set_option linter.unusedSimpArgs false
namespace Go.Proofs.Ythbcoakimbpkgaa
open Go.RowKit
set_option linter.unusedSimpArgs false
def g_sameDone : PC := fun args => match args with
  | [.agg [.v (.int .i64 k), .v (.int .i64 v), .l _ rows], .agg [.v (.int .i64 k'), .v (.int .i64 v'), .l _ rows']] => some ((∃ ps, rows = pRows ps ∧ rows' = pRows ps ∧ ps.length ≤ 1048576) ∧ k = k' ∧ v = v', .v (.bool true), [])
  | _ => none
def lqd1 : List (FuncId × Abs) := [(33, pureAbs g_samePackets)]
theorem lqd1_ok : ∀ p ∈ lqd1, CallOk Try.prog p.1 p.2 := by
  intro p hp
  simp only [lqd1, List.mem_cons, List.not_mem_nil, or_false] at hp
  rcases hp with rfl
  · exact samePackets_ok.call
set_option maxRecDepth 100000 in
theorem sameDone_ok : PureOk Try.prog 21 g_sameDone := by
  refine PureOk.of_vc (G := lqd1) lqd1_ok mixed Try.func21 (by kernel_rfl) rfl ?_
  intro args cnd r bs hg hc
  unfold g_sameDone at hg
  split at hg
  · rename_i k v sz rows k' v' sz' rows'
    cases hg
    obtain ⟨⟨ps, rfl, rfl, hn⟩, rfl, rfl⟩ := hc
    refine ⟨⟨rfl, by simp, by simp [AV.ids, AV.ids.idsL]⟩, [.agg [.v (.int .i64 k), .v (.int .i64 v), .l 9 (pRows ps)], .agg [.v (.int .i64 k), .v (.int .i64 v), .l 9 (pRows ps)]], rfl, fun w vs h => CvL.ok (.cons (.cons (.refl _) (.cons (.refl _) (.cons (.l _ _ _ (pRows_w ps)) .nil))) (.cons (.cons (.refl _) (.cons (.refl _) (.cons (.l _ _ _ (pRows_w ps)) .nil))) .nil)) h, ?_⟩
    simp (maxSteps := 3000000) only [Try.f21, lqd1, g_samePackets, ↓reduceIte, tYs, evL, implies_true, oMin, oCopy, oBin, oUn, oLoadKid, oStoreTree, oField, oExtract, oNil, oSliceQ, oLen, nodupB, treeOf, kidAbs, kidRows, TK.isCell, D.toL, oLoad, oStore, oMake, oIndexAddr, ↓reduceIte, reduceCtorEq, Nat.reduceBEq, Nat.reduceAdd, Nat.reduceMul, Nat.reduceLT, Nat.reduceSub, Nat.reduceLeDiff, Nat.reduceEqDiff, Nat.reduceBneDiff, Int.reduceToNat, decide_eq_true_eq, decide_eq_false_iff_not, beq_iff_eq, Int.toNat_natCast]
    refine ⟨⟨ps, rfl, rfl, hn⟩, ?_⟩
    exact ⟨_, [], rfl, ⟨⟨⟨rfl, rfl, rfl⟩, trivial⟩, trivial, by simp [rn, hpAt]⟩⟩
  · cases hg
def lfw : List (FuncId × Abs) := [(18, pureAbs g_alive), (26, pureAbs g_sameBytes), (25, pureAbs g_samePacket), (21, pureAbs g_sameDone), (23, pureAbs g_packetOk), (24, pureAbs g_noteFault), (20, ownAbs (ocOf g_fwdD)), (22, ownAbs (ocOf g_fwdD)), (19, ownAbs (ocOf g_drawFw))]
theorem lfw_ok : ∀ p ∈ lfw, CallOk Try.prog p.1 p.2 := by
  intro p hp
  simp only [lfw, List.mem_cons, List.not_mem_nil, or_false] at hp
  rcases hp with rfl | rfl | rfl | rfl | rfl | rfl | rfl | rfl | rfl
  · exact alive_ok.call
  · exact sameBytes_ok.call
  · exact samePacket_ok.call
  · exact sameDone_ok.call
  · exact implPacketOk_ok.call
  · exact implNoteFault_ok.call
  · exact implForwardD_ok.call
  · exact specForward_ok.call
  · exact drawForward_ok.call
set_option maxHeartbeats 8000000 in
set_option maxRecDepth 100000 in
theorem lawForward_ok : PureOk Try.prog 4 g_true := by
  refine PureOk.of_vc (G := lfw) lfw_ok mixed Try.func4 (by kernel_rfl) rfl ?_
  intro args cnd r bs hg hc
  unfold g_true at hg
  split at hg
  · rename_i sz rows
    cases hg
    obtain ⟨xs, rfl⟩ := hc
    refine ⟨⟨rfl, by simp, by simp [AV.ids, AV.ids.idsL]⟩, [.l 1 (rowsOfBytes xs)], rfl, fun w vs h => CvL.ok (.cons (.l _ _ _ (rowsOf_w xs)) .nil) h, ?_⟩
    obtain ⟨ys, hys⟩ : ∃ ys, ys = List.take 2000 xs := ⟨_, rfl⟩
    by_cases h20 : (xs.length : Int) > 1048576
    · have e20 : ((xs.length : Int) > 1048576) = True := eq_true h20
      simp (maxSteps := 3000000) only [Try.f4, lfw, e20, g_alive, g_sameBytes, g_samePacket, g_sameDone, g_packetOk, g_noteFault, ocOf, g_fwdD, g_drawFw, bytesOf_rows, rowsOf_len, stsOf_rows, rtsOf_rows, stRows_len, rtRows_len, ↓reduceIte, Bool.false_eq_true, D.toI, D.toL, tYs, evL, implies_true, oMin, oCopy, oBin, oUn, oLoadKid, oStoreTree, oField, oExtract, oNil, oSliceQ, oLen, nodupB, treeOf, kidAbs, kidRows, TK.isCell, D.toL, oLoad, oStore, oMake, oIndexAddr, ↓reduceIte, reduceCtorEq, Nat.reduceBEq, Nat.reduceAdd, Nat.reduceMul, Nat.reduceLT, Nat.reduceSub, Nat.reduceLeDiff, Nat.reduceEqDiff, Nat.reduceBneDiff, Int.reduceToNat, decide_eq_true_eq, decide_eq_false_iff_not, beq_iff_eq, Int.toNat_natCast, loopK_normal, loopK_exit, loopK_ret, bne_self_eq_false]
      exact ⟨_, [], rfl, ⟨⟨⟨rfl, rfl, rfl⟩, trivial⟩, trivial, by simp [rn, hpAt]⟩⟩
    have e20 : ((xs.length : Int) > 1048576) = False := eq_false h20
    have hnb := netV_bd ys 0 0 (by omega)
    have hqb := netQ_bd ys 0 0 (by omega)
    have hVb : (dfP ys).d.length ≤ 100000 := by
      rw [dfP]
      split
      · have := (pktV_q ys ((dfV ys).q + 1) 2).2.2; omega
      · have hq : dfQ ys < 100000000000 := by have : netQ ys 0 0 < 100000000000 := by omega
                                              exact this
        have := (sentV_q ys (dfQ ys) hq).2.2
        show (dfV ys).d.length ≤ 100000
        rw [dfV]; omega
    have hSb : (dfS ys).rs.length ≤ 8 := by
      rw [dfS]
      by_cases h : (pickV ys (dfP ys).q ((dfN ys).length : Int)).toNat < (dfN ys).length
      · rw [st_get h]; exact hnb.2 _ (List.getElem_mem h)
      · rw [List.getD_eq_getElem?_getD, List.getElem?_eq_none (by omega)]; simp [st0]
    obtain ⟨V, hV⟩ : ∃ V, V = dfP ys := ⟨_, rfl⟩
    have hV' := hV.symm
    obtain ⟨S, hS⟩ : ∃ S, S = dfS ys := ⟨_, rfl⟩
    have hS' := hS.symm
    rw [hV'] at hVb
    rw [hS'] at hSb
    clear hV hS
    obtain ⟨d, hD⟩ : ∃ d, d = fwV S ⟨V.f, V.t, V.pr, V.h, V.i, V.a, V.m, V.u, V.d⟩ := ⟨_, rfl⟩
    have hfl := fw_len S ⟨V.f, V.t, V.pr, V.h, V.i, V.a, V.m, V.u, V.d⟩
    have hfo := fun {q : Pk} => fw_ok (s := S) (p := ⟨V.f, V.t, V.pr, V.h, V.i, V.a, V.m, V.u, V.d⟩) (q := q)
    have hjo := fw_join S ⟨V.f, V.t, V.pr, V.h, V.i, V.a, V.m, V.u, V.d⟩
    have hgo := fw_gone S ⟨V.f, V.t, V.pr, V.h, V.i, V.a, V.m, V.u, V.d⟩
    have hk4 := fw_kind S ⟨V.f, V.t, V.pr, V.h, V.i, V.a, V.m, V.u, V.d⟩
    rw [← hD] at hfl hjo hgo hk4
    simp only [← hD] at hfo
    have hD' := hD.symm
    have hse : (⟨S.a, S.rs⟩ : St) = S := rfl
    clear hD
    obtain ⟨K, W, C⟩ := d
    dsimp only at hfl hfo hjo hgo hk4
    have hCd : ∀ y ∈ C, y.d.length ≤ 48 := fun y hy => (ok_h (hfo hy).1).2
    have hpos : ¬ K = 0 → 0 < C.length := fun h => by
      rw [decide_eq_false h] at hgo
      have := of_decide_eq_false hgo.symm
      omega
    clear hgo
    rcases hk4 with hk4 | hk4 | hk4 | hk4
    · skip
      have k0 : (K = 0) = False := eq_false (by omega)
      have n0 : (K != 0) = true := by simp [hk4]
      have m0 : (K == 0) = false := by simp [hk4]
      have k1 : (K = 1) = True := eq_true (by omega)
      have n1 : (K != 1) = false := by simp [hk4]
      have m1 : (K == 1) = true := by simp [hk4]
      have k2 : (K = 2) = False := eq_false (by omega)
      have n2 : (K != 2) = true := by simp [hk4]
      have m2 : (K == 2) = false := by simp [hk4]
      have k3 : (K = 3) = False := eq_false (by omega)
      have n3 : (K != 3) = true := by simp [hk4]
      have m3 : (K == 3) = false := by simp [hk4]
      have hCp : 0 < C.length := hpos (by omega)
      simp (maxSteps := 3000000) only [Try.f4, lfw, e20, ← hys, hV', hS', hD', pRows_len, k0, k1, k2, k3, n0, n1, n2, n3, m0, m1, m2, m3, ↓reduceIte, g_alive, g_sameBytes, g_samePacket, g_sameDone, g_packetOk, g_noteFault, ocOf, g_fwdD, g_drawFw, bytesOf_rows, rowsOf_len, stsOf_rows, rtsOf_rows, stRows_len, rtRows_len, ↓reduceIte, Bool.false_eq_true, D.toI, D.toL, tYs, evL, implies_true, oMin, oCopy, oBin, oUn, oLoadKid, oStoreTree, oField, oExtract, oNil, oSliceQ, oLen, nodupB, treeOf, kidAbs, kidRows, TK.isCell, D.toL, oLoad, oStore, oMake, oIndexAddr, ↓reduceIte, reduceCtorEq, Nat.reduceBEq, Nat.reduceAdd, Nat.reduceMul, Nat.reduceLT, Nat.reduceSub, Nat.reduceLeDiff, Nat.reduceEqDiff, Nat.reduceBneDiff, Int.reduceToNat, decide_eq_true_eq, decide_eq_false_iff_not, beq_iff_eq, Int.toNat_natCast, loopK_normal, loopK_exit, loopK_ret, bne_self_eq_false, ↓reduceIte, Bool.not_true, Bool.not_false]
      refine ⟨⟨xs, rfl⟩, ⟨⟨S.rs, rfl, by omega⟩, V.d, rfl, by omega⟩, ⟨⟨S.rs, rfl, by omega⟩, V.d, rfl, by omega⟩, ⟨C, rfl, rfl, by omega⟩, by kernel_rfl, ?_⟩
      refine e_loop _ _ _ _ _ _ _ _ (fun k : Nat => [.any, .any, .any, .ptr 0 0, .ptr 1 0, .ptr 2 0, .own 3, .v (.int .i64 (k : Int))] ++ List.replicate (Try.f4.ntmps - 8) .any) (fun k => [(0, .var 25 [.v (.int .i64 S.a), .l 4 (rtRows S.rs)]), (1, .var 31 [.v (.int .i64 V.f), .v (.int .i64 V.t), .v (.int .i64 V.pr), .v (.int .i64 V.h), .v (.int .i64 V.i), .v (.int .i64 V.a), .v (.bool V.m), .v (.bool V.u), .l 1 (rowsOfBytes V.d)]), (2, .var 36 [.v (.int .i64 K), .v (.int .i64 W), .l 9 (pRows C)]), (3, .sl 5 1 (rowsOfBytes (joinD (C.take k))))]) (fun k => k ≤ C.length) (fun k => C.length - k) 4 (fun k => by simp) ?_ fun k hk' => ?_
      · exact ⟨0, [(0, some _), (1, some _), (2, some _), (3, some _)], Nat.zero_le _, ⟨⟨trivial, trivial, trivial, ⟨rfl, rfl, rfl⟩, ⟨rfl, rfl, rfl⟩, ⟨rfl, rfl, rfl⟩, ⟨rfl, rfl, rfl⟩, ⟨rfl, rfl, rfl⟩, fitT_rep _ _ rfl⟩, ⟨.inl rfl, rfl, rfl, rfl, .inl rfl, rfl, rfl, rfl, .inl rfl, rfl, rfl, rfl, .inl rfl, rfl, rfl, rfl, trivial⟩, by simp [rn, hpAt]⟩, by simp [keepIds]⟩
      have w2 : IntKind.i64.wrap ((k : Int) + 1) = ((k + 1 : Nat) : Int) := wrap_id (by omega) (by omega)
      have hjl := joinD_le (ps := C.take k) fun y hy => hCd y (List.mem_of_mem_take hy)
      have htl : (C.take k).length ≤ 48 := by rw [List.length_take]; omega
      by_cases hk : k < C.length
      · have hrow := pRows_get C k hk
        have hlt : ((k : Int) < (C.length : Int)) = True := eq_true (by omega)
        have h0 : (0 ≤ (k : Int)) = True := eq_true (by omega)
        obtain ⟨q0, q1, q2, q3⟩ := hfo (List.getElem_mem hk)
        have q00 : pkB C[k].f C[k].t C[k].p C[k].h C[k].i C[k].a C[k].m C[k].u C[k].d.length = true := q0
        have q4 := ok_h q0
        have h9 : (C[k].f = V.f ∧ C[k].t = V.t ∧ C[k].p = V.pr ∧ C[k].h = V.h ∧ C[k].i = V.i ∧ C[k].a = V.a ∧ C[k].m = V.m ∧ C[k].u = V.u ∧ C[k].d = V.d) = True := eq_true (by rw [q3 hk4]; exact ⟨rfl, rfl, rfl, rfl, rfl, rfl, rfl, rfl, rfl⟩)
        have e1 : rowsOfBytes (joinD (C.take k)) ++ rowsOfBytes C[k].d = rowsOfBytes (joinD (C.take (k + 1))) := by rw [rowsOf_app, joinD_take hk]
        simp (maxSteps := 3000000) only [Try.f4, lfw, e20, ← hys, hV', hS', hD', pRows_len, k0, k1, k2, k3, n0, n1, n2, n3, m0, m1, m2, m3, hrow, hlt, h0, q00, e1, w2, dB, D.toB, pRow, h9, g_alive, g_sameBytes, g_samePacket, g_sameDone, g_packetOk, g_noteFault, ocOf, g_fwdD, g_drawFw, bytesOf_rows, rowsOf_len, stsOf_rows, rtsOf_rows, stRows_len, rtRows_len, ↓reduceIte, Bool.false_eq_true, D.toI, D.toL, tYs, evL, implies_true, oMin, oCopy, oBin, oUn, oLoadKid, oStoreTree, oField, oExtract, oNil, oSliceQ, oLen, nodupB, treeOf, kidAbs, kidRows, TK.isCell, D.toL, oLoad, oStore, oMake, oIndexAddr, ↓reduceIte, reduceCtorEq, Nat.reduceBEq, Nat.reduceAdd, Nat.reduceMul, Nat.reduceLT, Nat.reduceSub, Nat.reduceLeDiff, Nat.reduceEqDiff, Nat.reduceBneDiff, Int.reduceToNat, decide_eq_true_eq, decide_eq_false_iff_not, beq_iff_eq, Int.toNat_natCast, loopK_normal, loopK_exit, loopK_ret, bne_self_eq_false, ↓reduceIte, Bool.not_true, Bool.not_false]
        exact ⟨⟨⟨_, rfl⟩, _, rfl⟩, ⟨by omega, by omega, rowsOf_w _⟩, k + 1, [(0, some _), (1, some _), (2, some _), (3, some _)], by omega, by omega, ⟨⟨trivial, trivial, trivial, ⟨rfl, rfl, rfl⟩, ⟨rfl, rfl, rfl⟩, ⟨rfl, rfl, rfl⟩, ⟨rfl, rfl, rfl⟩, ⟨rfl, rfl, rfl⟩, fitT_rep _ _ rfl⟩, ⟨.inl rfl, rfl, rfl, rfl, .inl rfl, rfl, rfl, rfl, .inl rfl, rfl, rfl, rfl, .inl rfl, rfl, rfl, rfl, trivial⟩, by simp [rn, hpAt]⟩, by simp [keepIds]⟩
      · have hlt : ((k : Int) < (C.length : Int)) = False := eq_false (by omega)
        obtain rfl : k = C.length := by omega
        have hg : ((C.length : Int) == 0) = false := beq_eq_false_iff_ne.2 (by omega)
        simp (maxSteps := 3000000) only [Try.f4, lfw, e20, ← hys, hV', hS', hD', pRows_len, k0, k1, k2, k3, n0, n1, n2, n3, m0, m1, m2, m3, hlt, hg, w2, List.take_length, g_alive, g_sameBytes, g_samePacket, g_sameDone, g_packetOk, g_noteFault, ocOf, g_fwdD, g_drawFw, bytesOf_rows, rowsOf_len, stsOf_rows, rtsOf_rows, stRows_len, rtRows_len, ↓reduceIte, Bool.false_eq_true, D.toI, D.toL, tYs, evL, implies_true, oMin, oCopy, oBin, oUn, oLoadKid, oStoreTree, oField, oExtract, oNil, oSliceQ, oLen, nodupB, treeOf, kidAbs, kidRows, TK.isCell, D.toL, oLoad, oStore, oMake, oIndexAddr, ↓reduceIte, reduceCtorEq, Nat.reduceBEq, Nat.reduceAdd, Nat.reduceMul, Nat.reduceLT, Nat.reduceSub, Nat.reduceLeDiff, Nat.reduceEqDiff, Nat.reduceBneDiff, Int.reduceToNat, decide_eq_true_eq, decide_eq_false_iff_not, beq_iff_eq, Int.toNat_natCast, loopK_normal, loopK_exit, loopK_ret, bne_self_eq_false, ↓reduceIte, Bool.not_true, Bool.not_false]
        exact ⟨_, [], rfl, ⟨⟨⟨rfl, rfl, rfl⟩, trivial⟩, trivial, by simp [rn, hpAt]⟩⟩
    · skip
      have k0 : (K = 0) = False := eq_false (by omega)
      have n0 : (K != 0) = true := by simp [hk4]
      have m0 : (K == 0) = false := by simp [hk4]
      have k1 : (K = 1) = False := eq_false (by omega)
      have n1 : (K != 1) = true := by simp [hk4]
      have m1 : (K == 1) = false := by simp [hk4]
      have k2 : (K = 2) = False := eq_false (by omega)
      have n2 : (K != 2) = true := by simp [hk4]
      have m2 : (K == 2) = false := by simp [hk4]
      have k3 : (K = 3) = True := eq_true (by omega)
      have n3 : (K != 3) = false := by simp [hk4]
      have m3 : (K == 3) = true := by simp [hk4]
      have hCp : 0 < C.length := hpos (by omega)
      simp (maxSteps := 3000000) only [Try.f4, lfw, e20, ← hys, hV', hS', hD', pRows_len, k0, k1, k2, k3, n0, n1, n2, n3, m0, m1, m2, m3, ↓reduceIte, g_alive, g_sameBytes, g_samePacket, g_sameDone, g_packetOk, g_noteFault, ocOf, g_fwdD, g_drawFw, bytesOf_rows, rowsOf_len, stsOf_rows, rtsOf_rows, stRows_len, rtRows_len, ↓reduceIte, Bool.false_eq_true, D.toI, D.toL, tYs, evL, implies_true, oMin, oCopy, oBin, oUn, oLoadKid, oStoreTree, oField, oExtract, oNil, oSliceQ, oLen, nodupB, treeOf, kidAbs, kidRows, TK.isCell, D.toL, oLoad, oStore, oMake, oIndexAddr, ↓reduceIte, reduceCtorEq, Nat.reduceBEq, Nat.reduceAdd, Nat.reduceMul, Nat.reduceLT, Nat.reduceSub, Nat.reduceLeDiff, Nat.reduceEqDiff, Nat.reduceBneDiff, Int.reduceToNat, decide_eq_true_eq, decide_eq_false_iff_not, beq_iff_eq, Int.toNat_natCast, loopK_normal, loopK_exit, loopK_ret, bne_self_eq_false, ↓reduceIte, Bool.not_true, Bool.not_false]
      refine ⟨⟨xs, rfl⟩, ⟨⟨S.rs, rfl, by omega⟩, V.d, rfl, by omega⟩, ⟨⟨S.rs, rfl, by omega⟩, V.d, rfl, by omega⟩, ⟨C, rfl, rfl, by omega⟩, by kernel_rfl, ?_⟩
      refine e_loop _ _ _ _ _ _ _ _ (fun k : Nat => [.any, .any, .any, .ptr 0 0, .ptr 1 0, .ptr 2 0, .own 3, .v (.int .i64 (k : Int))] ++ List.replicate (Try.f4.ntmps - 8) .any) (fun k => [(0, .var 25 [.v (.int .i64 S.a), .l 4 (rtRows S.rs)]), (1, .var 31 [.v (.int .i64 V.f), .v (.int .i64 V.t), .v (.int .i64 V.pr), .v (.int .i64 V.h), .v (.int .i64 V.i), .v (.int .i64 V.a), .v (.bool V.m), .v (.bool V.u), .l 1 (rowsOfBytes V.d)]), (2, .var 36 [.v (.int .i64 K), .v (.int .i64 W), .l 9 (pRows C)]), (3, .sl 5 1 (rowsOfBytes (joinD (C.take k))))]) (fun k => k ≤ C.length) (fun k => C.length - k) 4 (fun k => by simp) ?_ fun k hk' => ?_
      · exact ⟨0, [(0, some _), (1, some _), (2, some _), (3, some _)], Nat.zero_le _, ⟨⟨trivial, trivial, trivial, ⟨rfl, rfl, rfl⟩, ⟨rfl, rfl, rfl⟩, ⟨rfl, rfl, rfl⟩, ⟨rfl, rfl, rfl⟩, ⟨rfl, rfl, rfl⟩, fitT_rep _ _ rfl⟩, ⟨.inl rfl, rfl, rfl, rfl, .inl rfl, rfl, rfl, rfl, .inl rfl, rfl, rfl, rfl, .inl rfl, rfl, rfl, rfl, trivial⟩, by simp [rn, hpAt]⟩, by simp [keepIds]⟩
      have w2 : IntKind.i64.wrap ((k : Int) + 1) = ((k + 1 : Nat) : Int) := wrap_id (by omega) (by omega)
      have hjl := joinD_le (ps := C.take k) fun y hy => hCd y (List.mem_of_mem_take hy)
      have htl : (C.take k).length ≤ 48 := by rw [List.length_take]; omega
      by_cases hk : k < C.length
      · have hrow := pRows_get C k hk
        have hlt : ((k : Int) < (C.length : Int)) = True := eq_true (by omega)
        have h0 : (0 ≤ (k : Int)) = True := eq_true (by omega)
        obtain ⟨q0, q1, q2, q3⟩ := hfo (List.getElem_mem hk)
        have q00 : pkB C[k].f C[k].t C[k].p C[k].h C[k].i C[k].a C[k].m C[k].u C[k].d.length = true := q0
        have q4 := ok_h q0
        have h9 : (C[k].t != V.f) = false := by rw [(q2 hk4).2]; exact bne_self_eq_false _
        have h8 : nFault C[k].p C[k].d = true := (q2 hk4).1
        have e1 : rowsOfBytes (joinD (C.take k)) ++ rowsOfBytes C[k].d = rowsOfBytes (joinD (C.take (k + 1))) := by rw [rowsOf_app, joinD_take hk]
        simp (maxSteps := 3000000) only [Try.f4, lfw, e20, ← hys, hV', hS', hD', pRows_len, k0, k1, k2, k3, n0, n1, n2, n3, m0, m1, m2, m3, hrow, hlt, h0, q00, e1, w2, dB, D.toB, pRow, h9, h8, g_alive, g_sameBytes, g_samePacket, g_sameDone, g_packetOk, g_noteFault, ocOf, g_fwdD, g_drawFw, bytesOf_rows, rowsOf_len, stsOf_rows, rtsOf_rows, stRows_len, rtRows_len, ↓reduceIte, Bool.false_eq_true, D.toI, D.toL, tYs, evL, implies_true, oMin, oCopy, oBin, oUn, oLoadKid, oStoreTree, oField, oExtract, oNil, oSliceQ, oLen, nodupB, treeOf, kidAbs, kidRows, TK.isCell, D.toL, oLoad, oStore, oMake, oIndexAddr, ↓reduceIte, reduceCtorEq, Nat.reduceBEq, Nat.reduceAdd, Nat.reduceMul, Nat.reduceLT, Nat.reduceSub, Nat.reduceLeDiff, Nat.reduceEqDiff, Nat.reduceBneDiff, Int.reduceToNat, decide_eq_true_eq, decide_eq_false_iff_not, beq_iff_eq, Int.toNat_natCast, loopK_normal, loopK_exit, loopK_ret, bne_self_eq_false, ↓reduceIte, Bool.not_true, Bool.not_false]
        exact ⟨⟨_, rfl, by omega⟩, ⟨by omega, by omega, rowsOf_w _⟩, k + 1, [(0, some _), (1, some _), (2, some _), (3, some _)], by omega, by omega, ⟨⟨trivial, trivial, trivial, ⟨rfl, rfl, rfl⟩, ⟨rfl, rfl, rfl⟩, ⟨rfl, rfl, rfl⟩, ⟨rfl, rfl, rfl⟩, ⟨rfl, rfl, rfl⟩, fitT_rep _ _ rfl⟩, ⟨.inl rfl, rfl, rfl, rfl, .inl rfl, rfl, rfl, rfl, .inl rfl, rfl, rfl, rfl, .inl rfl, rfl, rfl, rfl, trivial⟩, by simp [rn, hpAt]⟩, by simp [keepIds]⟩
      · have hlt : ((k : Int) < (C.length : Int)) = False := eq_false (by omega)
        obtain rfl : k = C.length := by omega
        have hg : ((C.length : Int) == 0) = false := beq_eq_false_iff_ne.2 (by omega)
        simp (maxSteps := 3000000) only [Try.f4, lfw, e20, ← hys, hV', hS', hD', pRows_len, k0, k1, k2, k3, n0, n1, n2, n3, m0, m1, m2, m3, hlt, hg, w2, List.take_length, g_alive, g_sameBytes, g_samePacket, g_sameDone, g_packetOk, g_noteFault, ocOf, g_fwdD, g_drawFw, bytesOf_rows, rowsOf_len, stsOf_rows, rtsOf_rows, stRows_len, rtRows_len, ↓reduceIte, Bool.false_eq_true, D.toI, D.toL, tYs, evL, implies_true, oMin, oCopy, oBin, oUn, oLoadKid, oStoreTree, oField, oExtract, oNil, oSliceQ, oLen, nodupB, treeOf, kidAbs, kidRows, TK.isCell, D.toL, oLoad, oStore, oMake, oIndexAddr, ↓reduceIte, reduceCtorEq, Nat.reduceBEq, Nat.reduceAdd, Nat.reduceMul, Nat.reduceLT, Nat.reduceSub, Nat.reduceLeDiff, Nat.reduceEqDiff, Nat.reduceBneDiff, Int.reduceToNat, decide_eq_true_eq, decide_eq_false_iff_not, beq_iff_eq, Int.toNat_natCast, loopK_normal, loopK_exit, loopK_ret, bne_self_eq_false, ↓reduceIte, Bool.not_true, Bool.not_false]
        exact ⟨_, [], rfl, ⟨⟨⟨rfl, rfl, rfl⟩, trivial⟩, trivial, by simp [rn, hpAt]⟩⟩
    · skip
      have k0 : (K = 0) = False := eq_false (by omega)
      have n0 : (K != 0) = true := by simp [hk4]
      have m0 : (K == 0) = false := by simp [hk4]
      have k1 : (K = 1) = False := eq_false (by omega)
      have n1 : (K != 1) = true := by simp [hk4]
      have m1 : (K == 1) = false := by simp [hk4]
      have k2 : (K = 2) = True := eq_true (by omega)
      have n2 : (K != 2) = false := by simp [hk4]
      have m2 : (K == 2) = true := by simp [hk4]
      have k3 : (K = 3) = False := eq_false (by omega)
      have n3 : (K != 3) = true := by simp [hk4]
      have m3 : (K == 3) = false := by simp [hk4]
      have hCp : 0 < C.length := hpos (by omega)
      simp (maxSteps := 3000000) only [Try.f4, lfw, e20, ← hys, hV', hS', hD', pRows_len, k0, k1, k2, k3, n0, n1, n2, n3, m0, m1, m2, m3, ↓reduceIte, g_alive, g_sameBytes, g_samePacket, g_sameDone, g_packetOk, g_noteFault, ocOf, g_fwdD, g_drawFw, bytesOf_rows, rowsOf_len, stsOf_rows, rtsOf_rows, stRows_len, rtRows_len, ↓reduceIte, Bool.false_eq_true, D.toI, D.toL, tYs, evL, implies_true, oMin, oCopy, oBin, oUn, oLoadKid, oStoreTree, oField, oExtract, oNil, oSliceQ, oLen, nodupB, treeOf, kidAbs, kidRows, TK.isCell, D.toL, oLoad, oStore, oMake, oIndexAddr, ↓reduceIte, reduceCtorEq, Nat.reduceBEq, Nat.reduceAdd, Nat.reduceMul, Nat.reduceLT, Nat.reduceSub, Nat.reduceLeDiff, Nat.reduceEqDiff, Nat.reduceBneDiff, Int.reduceToNat, decide_eq_true_eq, decide_eq_false_iff_not, beq_iff_eq, Int.toNat_natCast, loopK_normal, loopK_exit, loopK_ret, bne_self_eq_false, ↓reduceIte, Bool.not_true, Bool.not_false]
      refine ⟨⟨xs, rfl⟩, ⟨⟨S.rs, rfl, by omega⟩, V.d, rfl, by omega⟩, ⟨⟨S.rs, rfl, by omega⟩, V.d, rfl, by omega⟩, ⟨C, rfl, rfl, by omega⟩, by kernel_rfl, ?_⟩
      refine e_loop _ _ _ _ _ _ _ _ (fun k : Nat => [.any, .any, .any, .ptr 0 0, .ptr 1 0, .ptr 2 0, .own 3, .v (.int .i64 (k : Int))] ++ List.replicate (Try.f4.ntmps - 8) .any) (fun k => [(0, .var 25 [.v (.int .i64 S.a), .l 4 (rtRows S.rs)]), (1, .var 31 [.v (.int .i64 V.f), .v (.int .i64 V.t), .v (.int .i64 V.pr), .v (.int .i64 V.h), .v (.int .i64 V.i), .v (.int .i64 V.a), .v (.bool V.m), .v (.bool V.u), .l 1 (rowsOfBytes V.d)]), (2, .var 36 [.v (.int .i64 K), .v (.int .i64 W), .l 9 (pRows C)]), (3, .sl 5 1 (rowsOfBytes (joinD (C.take k))))]) (fun k => k ≤ C.length) (fun k => C.length - k) 4 (fun k => by simp) ?_ fun k hk' => ?_
      · exact ⟨0, [(0, some _), (1, some _), (2, some _), (3, some _)], Nat.zero_le _, ⟨⟨trivial, trivial, trivial, ⟨rfl, rfl, rfl⟩, ⟨rfl, rfl, rfl⟩, ⟨rfl, rfl, rfl⟩, ⟨rfl, rfl, rfl⟩, ⟨rfl, rfl, rfl⟩, fitT_rep _ _ rfl⟩, ⟨.inl rfl, rfl, rfl, rfl, .inl rfl, rfl, rfl, rfl, .inl rfl, rfl, rfl, rfl, .inl rfl, rfl, rfl, rfl, trivial⟩, by simp [rn, hpAt]⟩, by simp [keepIds]⟩
      have w2 : IntKind.i64.wrap ((k : Int) + 1) = ((k + 1 : Nat) : Int) := wrap_id (by omega) (by omega)
      have hjl := joinD_le (ps := C.take k) fun y hy => hCd y (List.mem_of_mem_take hy)
      have htl : (C.take k).length ≤ 48 := by rw [List.length_take]; omega
      by_cases hk : k < C.length
      · have hrow := pRows_get C k hk
        have hlt : ((k : Int) < (C.length : Int)) = True := eq_true (by omega)
        have h0 : (0 ≤ (k : Int)) = True := eq_true (by omega)
        obtain ⟨q0, q1, q2, q3⟩ := hfo (List.getElem_mem hk)
        have q00 : pkB C[k].f C[k].t C[k].p C[k].h C[k].i C[k].a C[k].m C[k].u C[k].d.length = true := q0
        have q4 := ok_h q0
        have h9 : IntKind.i64.wrap (V.h - 1) = C[k].h := by have := q1 hk4; have h8 : C[k].h = V.h - 1 := this; rw [h8, wrap_id] <;> omega
        have e1 : rowsOfBytes (joinD (C.take k)) ++ rowsOfBytes C[k].d = rowsOfBytes (joinD (C.take (k + 1))) := by rw [rowsOf_app, joinD_take hk]
        simp (maxSteps := 3000000) only [Try.f4, lfw, e20, ← hys, hV', hS', hD', pRows_len, k0, k1, k2, k3, n0, n1, n2, n3, m0, m1, m2, m3, hrow, hlt, h0, q00, e1, w2, dB, D.toB, pRow, h9, g_alive, g_sameBytes, g_samePacket, g_sameDone, g_packetOk, g_noteFault, ocOf, g_fwdD, g_drawFw, bytesOf_rows, rowsOf_len, stsOf_rows, rtsOf_rows, stRows_len, rtRows_len, ↓reduceIte, Bool.false_eq_true, D.toI, D.toL, tYs, evL, implies_true, oMin, oCopy, oBin, oUn, oLoadKid, oStoreTree, oField, oExtract, oNil, oSliceQ, oLen, nodupB, treeOf, kidAbs, kidRows, TK.isCell, D.toL, oLoad, oStore, oMake, oIndexAddr, ↓reduceIte, reduceCtorEq, Nat.reduceBEq, Nat.reduceAdd, Nat.reduceMul, Nat.reduceLT, Nat.reduceSub, Nat.reduceLeDiff, Nat.reduceEqDiff, Nat.reduceBneDiff, Int.reduceToNat, decide_eq_true_eq, decide_eq_false_iff_not, beq_iff_eq, Int.toNat_natCast, loopK_normal, loopK_exit, loopK_ret, bne_self_eq_false, ↓reduceIte, Bool.not_true, Bool.not_false]
        exact ⟨⟨by omega, by omega, rowsOf_w _⟩, k + 1, [(0, some _), (1, some _), (2, some _), (3, some _)], by omega, by omega, ⟨⟨trivial, trivial, trivial, ⟨rfl, rfl, rfl⟩, ⟨rfl, rfl, rfl⟩, ⟨rfl, rfl, rfl⟩, ⟨rfl, rfl, rfl⟩, ⟨rfl, rfl, rfl⟩, fitT_rep _ _ rfl⟩, ⟨.inl rfl, rfl, rfl, rfl, .inl rfl, rfl, rfl, rfl, .inl rfl, rfl, rfl, rfl, .inl rfl, rfl, rfl, rfl, trivial⟩, by simp [rn, hpAt]⟩, by simp [keepIds]⟩
      · have hlt : ((k : Int) < (C.length : Int)) = False := eq_false (by omega)
        obtain rfl : k = C.length := by omega
        have hg : ((C.length : Int) == 0) = false := beq_eq_false_iff_ne.2 (by omega)
        have e1 : joinD C = V.d := hjo hk4
        simp (maxSteps := 3000000) only [Try.f4, lfw, e20, ← hys, hV', hS', hD', pRows_len, k0, k1, k2, k3, n0, n1, n2, n3, m0, m1, m2, m3, hlt, hg, w2, List.take_length, e1, g_alive, g_sameBytes, g_samePacket, g_sameDone, g_packetOk, g_noteFault, ocOf, g_fwdD, g_drawFw, bytesOf_rows, rowsOf_len, stsOf_rows, rtsOf_rows, stRows_len, rtRows_len, ↓reduceIte, Bool.false_eq_true, D.toI, D.toL, tYs, evL, implies_true, oMin, oCopy, oBin, oUn, oLoadKid, oStoreTree, oField, oExtract, oNil, oSliceQ, oLen, nodupB, treeOf, kidAbs, kidRows, TK.isCell, D.toL, oLoad, oStore, oMake, oIndexAddr, ↓reduceIte, reduceCtorEq, Nat.reduceBEq, Nat.reduceAdd, Nat.reduceMul, Nat.reduceLT, Nat.reduceSub, Nat.reduceLeDiff, Nat.reduceEqDiff, Nat.reduceBneDiff, Int.reduceToNat, decide_eq_true_eq, decide_eq_false_iff_not, beq_iff_eq, Int.toNat_natCast, loopK_normal, loopK_exit, loopK_ret, bne_self_eq_false, ↓reduceIte, Bool.not_true, Bool.not_false]
        refine ⟨⟨_, rfl⟩, ?_⟩
        exact ⟨_, [], rfl, ⟨⟨⟨rfl, rfl, rfl⟩, trivial⟩, trivial, by simp [rn, hpAt]⟩⟩
    · obtain ⟨hk4, hp⟩ := hk4
      have k0 : (K = 0) = True := eq_true (by omega)
      have n0 : (K != 0) = false := by simp [hk4]
      have m0 : (K == 0) = true := by simp [hk4]
      have k1 : (K = 1) = False := eq_false (by omega)
      have n1 : (K != 1) = true := by simp [hk4]
      have m1 : (K == 1) = false := by simp [hk4]
      have k2 : (K = 2) = False := eq_false (by omega)
      have n2 : (K != 2) = true := by simp [hk4]
      have m2 : (K == 2) = false := by simp [hk4]
      have k3 : (K = 3) = False := eq_false (by omega)
      have n3 : (K != 3) = true := by simp [hk4]
      have m3 : (K == 3) = false := by simp [hk4]
      have hC0 : C.length = 0 := by rw [hp]; rfl
      simp (maxSteps := 3000000) only [Try.f4, lfw, e20, ← hys, hV', hS', hD', pRows_len, k0, k1, k2, k3, n0, n1, n2, n3, m0, m1, m2, m3, ↓reduceIte, g_alive, g_sameBytes, g_samePacket, g_sameDone, g_packetOk, g_noteFault, ocOf, g_fwdD, g_drawFw, bytesOf_rows, rowsOf_len, stsOf_rows, rtsOf_rows, stRows_len, rtRows_len, ↓reduceIte, Bool.false_eq_true, D.toI, D.toL, tYs, evL, implies_true, oMin, oCopy, oBin, oUn, oLoadKid, oStoreTree, oField, oExtract, oNil, oSliceQ, oLen, nodupB, treeOf, kidAbs, kidRows, TK.isCell, D.toL, oLoad, oStore, oMake, oIndexAddr, ↓reduceIte, reduceCtorEq, Nat.reduceBEq, Nat.reduceAdd, Nat.reduceMul, Nat.reduceLT, Nat.reduceSub, Nat.reduceLeDiff, Nat.reduceEqDiff, Nat.reduceBneDiff, Int.reduceToNat, decide_eq_true_eq, decide_eq_false_iff_not, beq_iff_eq, Int.toNat_natCast, loopK_normal, loopK_exit, loopK_ret, bne_self_eq_false, ↓reduceIte, Bool.not_true, Bool.not_false]
      refine ⟨⟨xs, rfl⟩, ⟨⟨S.rs, rfl, by omega⟩, V.d, rfl, by omega⟩, ⟨⟨S.rs, rfl, by omega⟩, V.d, rfl, by omega⟩, ⟨C, rfl, rfl, by omega⟩, by kernel_rfl, ?_⟩
      refine e_loop _ _ _ _ _ _ _ _ (fun k : Nat => [.any, .any, .any, .ptr 0 0, .ptr 1 0, .ptr 2 0, .own 3, .v (.int .i64 (k : Int))] ++ List.replicate (Try.f4.ntmps - 8) .any) (fun k => [(0, .var 25 [.v (.int .i64 S.a), .l 4 (rtRows S.rs)]), (1, .var 31 [.v (.int .i64 V.f), .v (.int .i64 V.t), .v (.int .i64 V.pr), .v (.int .i64 V.h), .v (.int .i64 V.i), .v (.int .i64 V.a), .v (.bool V.m), .v (.bool V.u), .l 1 (rowsOfBytes V.d)]), (2, .var 36 [.v (.int .i64 K), .v (.int .i64 W), .l 9 (pRows C)]), (3, .sl 5 1 (rowsOfBytes (joinD (C.take k))))]) (fun k => k ≤ C.length) (fun k => C.length - k) 4 (fun k => by simp) ?_ fun k hk' => ?_
      · exact ⟨0, [(0, some _), (1, some _), (2, some _), (3, some _)], Nat.zero_le _, ⟨⟨trivial, trivial, trivial, ⟨rfl, rfl, rfl⟩, ⟨rfl, rfl, rfl⟩, ⟨rfl, rfl, rfl⟩, ⟨rfl, rfl, rfl⟩, ⟨rfl, rfl, rfl⟩, fitT_rep _ _ rfl⟩, ⟨.inl rfl, rfl, rfl, rfl, .inl rfl, rfl, rfl, rfl, .inl rfl, rfl, rfl, rfl, .inl rfl, rfl, rfl, rfl, trivial⟩, by simp [rn, hpAt]⟩, by simp [keepIds]⟩
      have w2 : IntKind.i64.wrap ((k : Int) + 1) = ((k + 1 : Nat) : Int) := wrap_id (by omega) (by omega)
      have hjl := joinD_le (ps := C.take k) fun y hy => hCd y (List.mem_of_mem_take hy)
      have htl : (C.take k).length ≤ 48 := by rw [List.length_take]; omega
      by_cases hk : k < C.length
      · have hrow := pRows_get C k hk
        have hlt : ((k : Int) < (C.length : Int)) = True := eq_true (by omega)
        have h0 : (0 ≤ (k : Int)) = True := eq_true (by omega)
        obtain ⟨q0, q1, q2, q3⟩ := hfo (List.getElem_mem hk)
        have q00 : pkB C[k].f C[k].t C[k].p C[k].h C[k].i C[k].a C[k].m C[k].u C[k].d.length = true := q0
        have q4 := ok_h q0
        have e1 : rowsOfBytes (joinD (C.take k)) ++ rowsOfBytes C[k].d = rowsOfBytes (joinD (C.take (k + 1))) := by rw [rowsOf_app, joinD_take hk]
        simp (maxSteps := 3000000) only [Try.f4, lfw, e20, ← hys, hV', hS', hD', pRows_len, k0, k1, k2, k3, n0, n1, n2, n3, m0, m1, m2, m3, hrow, hlt, h0, q00, e1, w2, dB, D.toB, pRow, g_alive, g_sameBytes, g_samePacket, g_sameDone, g_packetOk, g_noteFault, ocOf, g_fwdD, g_drawFw, bytesOf_rows, rowsOf_len, stsOf_rows, rtsOf_rows, stRows_len, rtRows_len, ↓reduceIte, Bool.false_eq_true, D.toI, D.toL, tYs, evL, implies_true, oMin, oCopy, oBin, oUn, oLoadKid, oStoreTree, oField, oExtract, oNil, oSliceQ, oLen, nodupB, treeOf, kidAbs, kidRows, TK.isCell, D.toL, oLoad, oStore, oMake, oIndexAddr, ↓reduceIte, reduceCtorEq, Nat.reduceBEq, Nat.reduceAdd, Nat.reduceMul, Nat.reduceLT, Nat.reduceSub, Nat.reduceLeDiff, Nat.reduceEqDiff, Nat.reduceBneDiff, Int.reduceToNat, decide_eq_true_eq, decide_eq_false_iff_not, beq_iff_eq, Int.toNat_natCast, loopK_normal, loopK_exit, loopK_ret, bne_self_eq_false, ↓reduceIte, Bool.not_true, Bool.not_false]
        exact absurd hk (by omega)
      · have hlt : ((k : Int) < (C.length : Int)) = False := eq_false (by omega)
        obtain rfl : k = C.length := by omega
        have hg : ((C.length : Int) == 0) = true := beq_iff_eq.2 (by omega)
        simp (maxSteps := 3000000) only [Try.f4, lfw, e20, ← hys, hV', hS', hD', pRows_len, k0, k1, k2, k3, n0, n1, n2, n3, m0, m1, m2, m3, hlt, hg, w2, List.take_length, g_alive, g_sameBytes, g_samePacket, g_sameDone, g_packetOk, g_noteFault, ocOf, g_fwdD, g_drawFw, bytesOf_rows, rowsOf_len, stsOf_rows, rtsOf_rows, stRows_len, rtRows_len, ↓reduceIte, Bool.false_eq_true, D.toI, D.toL, tYs, evL, implies_true, oMin, oCopy, oBin, oUn, oLoadKid, oStoreTree, oField, oExtract, oNil, oSliceQ, oLen, nodupB, treeOf, kidAbs, kidRows, TK.isCell, D.toL, oLoad, oStore, oMake, oIndexAddr, ↓reduceIte, reduceCtorEq, Nat.reduceBEq, Nat.reduceAdd, Nat.reduceMul, Nat.reduceLT, Nat.reduceSub, Nat.reduceLeDiff, Nat.reduceEqDiff, Nat.reduceBneDiff, Int.reduceToNat, decide_eq_true_eq, decide_eq_false_iff_not, beq_iff_eq, Int.toNat_natCast, loopK_normal, loopK_exit, loopK_ret, bne_self_eq_false, ↓reduceIte, Bool.not_true, Bool.not_false]
        exact ⟨_, [], rfl, ⟨⟨⟨rfl, rfl, rfl⟩, trivial⟩, trivial, by simp [rn, hpAt]⟩⟩
  · cases hg
theorem walk_Forward (A : Option Addr) (n c : Nat) (xs : List UInt8) (w : World) (h : Rd w w.heap.size A n (bv xs)) (hc : n ≤ c) :
    Calls Try.prog 4 #[.slice A n c] w fun e w' => e = .returned (.bool true) ∧ Below w.heap.size w w' :=
  lawForward_ok.walk (vs := [_]) (arel_cons (.l _ _ _ (rep_of_rd h hc)) arel_nil) rfl ⟨xs, rfl⟩
end Go.Proofs.Ythbcoakimbpkgaa
