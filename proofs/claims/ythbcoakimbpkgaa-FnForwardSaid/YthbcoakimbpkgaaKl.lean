import Derived.Test.YthbcoakimbpkgaaKk
import Derived.Test.YthbcoakimbpkgaaVf
set_option linter.unusedVariables false
set_option linter.unusedSimpArgs false
namespace Go.Proofs.Ythbcoakimbpkgaa
open Go.RowKit
set_option linter.unusedSimpArgs false
def hopsV (i : Int) : Int := [64, 64, 1, 2, 3, 4].getD i.toNat 0
def sentV (xs : List UInt8) (p : Int) : PkV :=
  if 0 < pickV xs ((pktV xs p 0).q + 1 + 1) 3 then { pktV xs p 0 with t := 10 + pickV xs (pktV xs p 0).q 6, h := hopsV (pickV xs ((pktV xs p 0).q + 1) 6), a := 0, m := false, q := (pktV xs p 0).q + 1 + 1 + 1 }
  else { pktV xs p 0 with t := 10 + pickV xs (pktV xs p 0).q 6, h := hopsV (pickV xs ((pktV xs p 0).q + 1) 6), q := (pktV xs p 0).q + 1 + 1 + 1 }
theorem sentV_q (xs : List UInt8) (p : Int) (hp : p < 100000000000) : p ≤ (sentV xs p).q ∧ (sentV xs p).q < p + 100 ∧ (sentV xs p).d.length ≤ 60 := by
  have h := pktV_q xs p 0
  unfold sentV
  split <;> (dsimp only; omega)
theorem netQ_bd (xs : List UInt8) (p n : Int) (h : p < 100000000000) : p ≤ netQ xs p n ∧ netQ xs p n ≤ p + 112 := by
  have := (netL_bd xs p h).2.2
  have h1 := oneIf_le n
  rw [netQ]; omega
def g_sent : OC := fun args B0 => match args, B0 with
  | [.ptr r o, .l _ nr], [.var T [.l 1 rows, .v (.int .i64 p)]] => some (T = 125 ∧ r = 0 ∧ o = 0 ∧ (∃ xs, rows = rowsOfBytes xs ∧ xs.length ≤ 2000) ∧ 0 ≤ p ∧ p < 10000000000, .agg [.v (.int .i64 (sentV (bytesOfRows rows) p).f), .v (.int .i64 (sentV (bytesOfRows rows) p).t), .v (.int .i64 (sentV (bytesOfRows rows) p).pr), .v (.int .i64 (sentV (bytesOfRows rows) p).h), .v (.int .i64 (sentV (bytesOfRows rows) p).i), .v (.int .i64 (sentV (bytesOfRows rows) p).a), .v (.bool (sentV (bytesOfRows rows) p).m), .v (.bool (sentV (bytesOfRows rows) p).u), .l 1 (rowsOfBytes (sentV (bytesOfRows rows) p).d)], [.var T [.l 1 rows, .v (.int .i64 (sentV (bytesOfRows rows) p).q)]], [])
  | _, _ => none
def kns : List (FuncId × Abs) := [(69, ownAbs g_pick), (70, ownAbs g_packet)]
theorem kns_ok : ∀ p ∈ kns, CallOk Try.prog p.1 p.2 := by
  intro p hp
  simp only [kns, List.mem_cons, List.not_mem_nil, or_false] at hp
  rcases hp with rfl | rfl
  · exact pick_ok.call
  · exact packet_ok.call
set_option maxHeartbeats 4000000 in
set_option maxRecDepth 100000 in
theorem l20Sent_ok : OwnOk Try.prog 68 g_sent := by
  refine OwnOk.of_vcL (G := kns) kns_ok mixed Try.func68 (by kernel_rfl) rfl ?_
  intro args B0 cnd r B1 bs hg hc hlive
  unfold g_sent at hg
  split at hg
  · rename_i r o sn nr T rows p
    cases hg
    obtain ⟨rfl, rfl, rfl, ⟨xs, rfl, hl⟩, hp0, hp1⟩ := hc
    rw [bytesOf_rows]
    have hb := pktV_q xs p 0
    obtain ⟨V, hV⟩ : ∃ V, V = pktV xs p 0 := ⟨_, rfl⟩
    have hV' := hV.symm
    rw [hV'] at hb
    have a1 := pickV_nonneg xs V.q 6 (by omega)
    have a2 := pickV_lt xs V.q 6 (by omega)
    have a3 := pickV_nonneg xs (V.q + 1) 6 (by omega)
    have a4 := pickV_lt xs (V.q + 1) 6 (by omega)
    have w1 : IntKind.i64.wrap (10 + pickV xs V.q 6) = 10 + pickV xs V.q 6 := wrap_id (by omega) (by omega)
    have r1 := lit_get [64, 64, 1, 2, 3, 4] (pickV xs (V.q + 1) 6).toNat (by simp only [List.length_cons, List.length_nil]; omega)
    simp only [List.map_cons, List.map_nil] at r1
    rw [← hopsV] at r1
    have h6 : (pickV xs (V.q + 1) 6 < 6) = True := eq_true a4
    refine ⟨⟨by simp [likeBs, likeB], rfl, fun b hb => by simp at hb; subst hb; exact ⟨_, _, rfl, rfl⟩, by simp [AV.ids, AV.ids.idsL]⟩, _, rfl, fun w Z s vs h => h, ?_⟩
    clear hlive
    have hx : (∃ ys, rowsOfBytes xs = rowsOfBytes ys ∧ ys.length ≤ 2000) = True := eq_true ⟨xs, rfl, hl⟩
    by_cases h3 : 0 < pickV xs (V.q + 1 + 1) 3
    · have c3 : (pickV xs (V.q + 1 + 1) 3 > 0) = True := eq_true h3
      have hv : sentV xs p = { V with t := 10 + pickV xs V.q 6, h := hopsV (pickV xs (V.q + 1) 6), a := 0, m := false, q := V.q + 1 + 1 + 1 } := by rw [sentV, hV', if_pos h3]
      rw [hv]
      simp (maxSteps := 3000000) only [Try.f68, kns, g_pick, g_packet, bytesOf_rows, rowsOf_len, hV', w1, r1, c3, hx, D.toI, D.toL, ↓reduceIte, Bool.false_eq_true, doneL_ret, doneL_normal, tYs, evL, implies_true, oMin, oCopy, oBin, oUn, oLoadKid, oStoreTree, oField, oExtract, oNil, oSliceQ, oLen, nodupB, treeOf, kidAbs, kidRows, TK.isCell, D.toL, oLoad, oStore, oMake, oIndexAddr, ↓reduceIte, reduceCtorEq, Nat.reduceBEq, Nat.reduceAdd, Nat.reduceMul, Nat.reduceLT, Nat.reduceSub, Nat.reduceLeDiff, Nat.reduceEqDiff, Nat.reduceBneDiff, Int.reduceToNat, decide_eq_true_eq, decide_eq_false_iff_not, beq_iff_eq, Int.toNat_natCast]
      clear hV' hv r1
      (repeat (refine And.intro ?_ ?_; focus (((repeat' apply And.intro) <;> first | exact rowsOf_w _ | omega | (simp only [List.length_append, rowsOf_len, List.length_cons, List.length_nil, marks_len, List.length_take, List.length_drop, List.length_set]; omega) | exact ⟨_, rfl⟩ | (refine ⟨_, rfl, ?_⟩; omega) | (refine ⟨_, rfl, ?_⟩; simp only [List.length_append, rowsOf_len, List.length_cons, List.length_nil, marks_len, List.length_take, List.length_drop, List.length_set]; omega) | kernel_rfl | (simp; done)); done)))
      exact ⟨_, rfl, rfl, rfl⟩
    · have c3 : (pickV xs (V.q + 1 + 1) 3 > 0) = False := eq_false h3
      have hv : sentV xs p = { V with t := 10 + pickV xs V.q 6, h := hopsV (pickV xs (V.q + 1) 6), q := V.q + 1 + 1 + 1 } := by rw [sentV, hV', if_neg h3]
      rw [hv]
      simp (maxSteps := 3000000) only [Try.f68, kns, g_pick, g_packet, bytesOf_rows, rowsOf_len, hV', w1, r1, c3, hx, D.toI, D.toL, ↓reduceIte, Bool.false_eq_true, doneL_ret, doneL_normal, tYs, evL, implies_true, oMin, oCopy, oBin, oUn, oLoadKid, oStoreTree, oField, oExtract, oNil, oSliceQ, oLen, nodupB, treeOf, kidAbs, kidRows, TK.isCell, D.toL, oLoad, oStore, oMake, oIndexAddr, ↓reduceIte, reduceCtorEq, Nat.reduceBEq, Nat.reduceAdd, Nat.reduceMul, Nat.reduceLT, Nat.reduceSub, Nat.reduceLeDiff, Nat.reduceEqDiff, Nat.reduceBneDiff, Int.reduceToNat, decide_eq_true_eq, decide_eq_false_iff_not, beq_iff_eq, Int.toNat_natCast]
      clear hV' hv r1
      (repeat (refine And.intro ?_ ?_; focus (((repeat' apply And.intro) <;> first | exact rowsOf_w _ | omega | (simp only [List.length_append, rowsOf_len, List.length_cons, List.length_nil, marks_len, List.length_take, List.length_drop, List.length_set]; omega) | exact ⟨_, rfl⟩ | (refine ⟨_, rfl, ?_⟩; omega) | (refine ⟨_, rfl, ?_⟩; simp only [List.length_append, rowsOf_len, List.length_cons, List.length_nil, marks_len, List.length_take, List.length_drop, List.length_set]; omega) | kernel_rfl | (simp; done)); done)))
      exact ⟨_, rfl, rfl, rfl⟩
  · cases hg
def dtN (xs : List UInt8) : List St := netV xs 0 20
def dtQ (xs : List UInt8) : Int := netQ xs 0 20
def dtF (xs : List UInt8) : Int := pickV xs (dtQ xs) ((dtN xs).length + 1) - pickV xs (dtQ xs + 1) 20 / 19
def dtP (xs : List UInt8) : PkV := sentV xs (dtQ xs + 1 + 1)
def dfN (xs : List UInt8) : List St := netV xs 0 0
def dfQ (xs : List UInt8) : Int := netQ xs 0 0
def dfV (xs : List UInt8) : PkV := sentV xs (dfQ xs)
def dfP (xs : List UInt8) : PkV := if pickV xs (dfV xs).q 12 = 0 then pktV xs ((dfV xs).q + 1) 2 else { dfV xs with q := (dfV xs).q + 1 }
def dfS (xs : List UInt8) : St := (dfN xs).getD (pickV xs (dfP xs).q (dfN xs).length).toNat st0
def g_drawFw : PC := fun args => match args with
  | [.l _ rows] => some (∃ xs, rows = rowsOfBytes xs, .tup [.agg [.v (.int .i64 (dfS ((bytesOfRows rows).take 2000)).a), .l 4 (rtRows (dfS ((bytesOfRows rows).take 2000)).rs)], .agg [.v (.int .i64 (dfP ((bytesOfRows rows).take 2000)).f), .v (.int .i64 (dfP ((bytesOfRows rows).take 2000)).t), .v (.int .i64 (dfP ((bytesOfRows rows).take 2000)).pr), .v (.int .i64 (dfP ((bytesOfRows rows).take 2000)).h), .v (.int .i64 (dfP ((bytesOfRows rows).take 2000)).i), .v (.int .i64 (dfP ((bytesOfRows rows).take 2000)).a), .v (.bool (dfP ((bytesOfRows rows).take 2000)).m), .v (.bool (dfP ((bytesOfRows rows).take 2000)).u), .l 1 (rowsOfBytes (dfP ((bytesOfRows rows).take 2000)).d)]], [])
  | _ => none
def g_drawTv : PC := fun args => match args with
  | [.l _ rows] => some (∃ xs, rows = rowsOfBytes xs, .tup [.l 2 (stRows (dtN ((bytesOfRows rows).take 2000))), .v (.int .i64 (dtF ((bytesOfRows rows).take 2000))), .agg [.v (.int .i64 (dtP ((bytesOfRows rows).take 2000)).f), .v (.int .i64 (dtP ((bytesOfRows rows).take 2000)).t), .v (.int .i64 (dtP ((bytesOfRows rows).take 2000)).pr), .v (.int .i64 (dtP ((bytesOfRows rows).take 2000)).h), .v (.int .i64 (dtP ((bytesOfRows rows).take 2000)).i), .v (.int .i64 (dtP ((bytesOfRows rows).take 2000)).a), .v (.bool (dtP ((bytesOfRows rows).take 2000)).m), .v (.bool (dtP ((bytesOfRows rows).take 2000)).u), .l 1 (rowsOfBytes (dtP ((bytesOfRows rows).take 2000)).d)]], [])
  | _ => none
def kd1 : List (FuncId × Abs) := [(59, ownAbs g_open), (69, ownAbs g_pick), (67, ownAbs g_net), (68, ownAbs g_sent), (70, ownAbs g_packet), (60, ownAbs g_addr), (61, ownAbs g_routes)]
theorem kd1_ok : ∀ p ∈ kd1, CallOk Try.prog p.1 p.2 := by
  intro p hp
  simp only [kd1, List.mem_cons, List.not_mem_nil, or_false] at hp
  rcases hp with rfl | rfl | rfl | rfl | rfl | rfl | rfl
  · exact open_ok.call
  · exact pick_ok.call
  · exact l20Net_ok.call
  · exact l20Sent_ok.call
  · exact packet_ok.call
  · exact addr_ok.call
  · exact routes_ok.call
set_option maxHeartbeats 8000000 in
set_option maxRecDepth 100000 in
theorem drawTravel_ok : OwnOk Try.prog 30 (ocOf g_drawTv) := by
  refine OwnOk.of_vcD (G := kd1) kd1_ok mixed Try.func30 (by kernel_rfl) rfl ?_
  intro args cnd r bs hg hc
  unfold g_drawTv at hg
  split at hg
  · rename_i sz rows
    cases hg
    obtain ⟨xs, rfl⟩ := hc
    rw [bytesOf_rows]
    refine ⟨⟨rfl, by simp [AV.ids, AV.ids.idsL]⟩, [.l 1 (rowsOfBytes xs)], rfl, fun w Z s vs h => CvL.ok (.cons (.l _ _ _ (rowsOf_w xs)) .nil) h, ?_⟩
    obtain ⟨ys, hys⟩ : ∃ ys, ys = List.take 2000 xs := ⟨_, rfl⟩
    rw [← hys]
    have hyl : ys.length ≤ 2000 := by rw [hys, List.length_take]; omega
    have hx : (∃ zs, rowsOfBytes ys = rowsOfBytes zs ∧ zs.length ≤ 2000) = True := eq_true ⟨_, rfl, hyl⟩
    have hnb := netV_bd ys 0 20 (by omega)
    have hqb := netQ_bd ys 0 20 (by omega)
    obtain ⟨L, hL⟩ : ∃ L, L = netV ys 0 20 := ⟨_, rfl⟩
    have hL' := hL.symm
    obtain ⟨Q, hQ⟩ : ∃ Q, Q = netQ ys 0 20 := ⟨_, rfl⟩
    have hQ' := hQ.symm
    rw [hL'] at hnb
    rw [hQ'] at hqb
    have hsb := sentV_q ys (Q + 1 + 1) (by omega)
    have w1 : IntKind.i64.wrap ((L.length : Int) + 1) = (L.length : Int) + 1 := wrap_id (by omega) (by omega)
    have a1 := pickV_nonneg ys Q ((L.length : Int) + 1) (by omega)
    have a2 := pickV_lt ys Q ((L.length : Int) + 1) (by omega)
    have a3 := pickV_nonneg ys (Q + 1) 20 (by omega)
    have a4 := pickV_lt ys (Q + 1) 20 (by omega)
    have t1 : (pickV ys (Q + 1) 20).tdiv 19 = pickV ys (Q + 1) 20 / 19 := Int.tdiv_eq_ediv_of_nonneg a3
    have w2 : IntKind.i64.wrap (pickV ys (Q + 1) 20 / 19) = pickV ys (Q + 1) 20 / 19 := wrap_id (by omega) (by omega)
    have w3 : IntKind.i64.wrap (pickV ys Q ((L.length : Int) + 1) - pickV ys (Q + 1) 20 / 19) = pickV ys Q ((L.length : Int) + 1) - pickV ys (Q + 1) 20 / 19 := wrap_id (by omega) (by omega)
    have e1 : dtN ys = L := hL'
    have e2 : dtQ ys = Q := hQ'
    have e3 : dtF ys = pickV ys Q ((L.length : Int) + 1) - pickV ys (Q + 1) 20 / 19 := by rw [dtF, e1, e2]
    have e4 : dtP ys = sentV ys (Q + 1 + 1) := by rw [dtP, e2]
    rw [e1, e3, e4]
    simp (maxSteps := 3000000) only [Try.f30, kd1, g_open, g_pick, g_net, g_sent, g_packet, g_addr, g_routes, bytesOf_rows, rowsOf_len, stRows_len, rtRows_len, ← hys, hx, hL', hQ', w1, w2, w3, t1, D.toI, D.toL, ↓reduceIte, Bool.false_eq_true, tYs, evL, implies_true, oMin, oCopy, oBin, oUn, oLoadKid, oStoreTree, oField, oExtract, oNil, oSliceQ, oLen, nodupB, treeOf, kidAbs, kidRows, TK.isCell, D.toL, oLoad, oStore, oMake, oIndexAddr, ↓reduceIte, reduceCtorEq, Nat.reduceBEq, Nat.reduceAdd, Nat.reduceMul, Nat.reduceLT, Nat.reduceSub, Nat.reduceLeDiff, Nat.reduceEqDiff, Nat.reduceBneDiff, Int.reduceToNat, decide_eq_true_eq, decide_eq_false_iff_not, beq_iff_eq, Int.toNat_natCast, doneD_ret, doneD_normal]
    clear t1 w1 w2 w3 hL' hQ'
    (repeat (refine And.intro ?_ ?_; focus (((repeat' apply And.intro) <;> first | exact rowsOf_w _ | omega | (simp only [List.length_append, rowsOf_len, List.length_cons, List.length_nil, marks_len, List.length_take, List.length_drop, List.length_set]; omega) | exact ⟨_, rfl⟩ | (refine ⟨_, rfl, ?_⟩; omega) | (refine ⟨_, rfl, ?_⟩; simp only [List.length_append, rowsOf_len, List.length_cons, List.length_nil, marks_len, List.length_take, List.length_drop, List.length_set]; omega) | kernel_rfl | (simp; done)); done)))
    exact ⟨_, rfl, rfl⟩
  · cases hg
set_option maxHeartbeats 8000000 in
set_option maxRecDepth 100000 in
theorem drawForward_ok : OwnOk Try.prog 19 (ocOf g_drawFw) := by
  refine OwnOk.of_vcD (G := kd1) kd1_ok mixed Try.func19 (by kernel_rfl) rfl ?_
  intro args cnd r bs hg hc
  unfold g_drawFw at hg
  split at hg
  · rename_i sz rows
    cases hg
    obtain ⟨xs, rfl⟩ := hc
    rw [bytesOf_rows]
    refine ⟨⟨rfl, by simp [AV.ids, AV.ids.idsL]⟩, [.l 1 (rowsOfBytes xs)], rfl, fun w Z s vs h => CvL.ok (.cons (.l _ _ _ (rowsOf_w xs)) .nil) h, ?_⟩
    obtain ⟨ys, hys⟩ : ∃ ys, ys = List.take 2000 xs := ⟨_, rfl⟩
    rw [← hys]
    have hyl : ys.length ≤ 2000 := by rw [hys, List.length_take]; omega
    have hx : (∃ zs, rowsOfBytes ys = rowsOfBytes zs ∧ zs.length ≤ 2000) = True := eq_true ⟨_, rfl, hyl⟩
    have hnb := netV_bd ys 0 0 (by omega)
    have hqb := netQ_bd ys 0 0 (by omega)
    obtain ⟨L, hL⟩ : ∃ L, L = netV ys 0 0 := ⟨_, rfl⟩
    have hL' := hL.symm
    obtain ⟨Q, hQ⟩ : ∃ Q, Q = netQ ys 0 0 := ⟨_, rfl⟩
    have hQ' := hQ.symm
    rw [hL'] at hnb
    rw [hQ'] at hqb
    have hsb := sentV_q ys Q (by omega)
    obtain ⟨V, hV⟩ : ∃ V, V = sentV ys Q := ⟨_, rfl⟩
    have hV' := hV.symm
    rw [hV'] at hsb
    have e1 : dfN ys = L := hL'
    have e2 : dfQ ys = Q := hQ'
    have e3 : dfV ys = V := by rw [dfV, e2, hV']
    have hwb := pktV_q ys (V.q + 1) 2
    obtain ⟨W, hW⟩ : ∃ W, W = pktV ys (V.q + 1) 2 := ⟨_, rfl⟩
    have hW' := hW.symm
    rw [hW'] at hwb
    have fin : ∀ z : Int, 0 ≤ z → z < 1000000000 → ((0 ≤ pickV ys z (L.length : Int)) = True ∧ (pickV ys z (L.length : Int) < (L.length : Int)) = True) ∧ (stRows L).getD (pickV ys z (L.length : Int)).toNat [] = [D.v (.int .i64 (L.getD (pickV ys z (L.length : Int)).toNat st0).a), D.l 4 (rtRows (L.getD (pickV ys z (L.length : Int)).toNat st0).rs)] := fun z _ _ => by
      have a1 := pickV_nonneg ys z (L.length : Int) (by omega)
      have a2 := pickV_lt ys z (L.length : Int) (by omega)
      refine ⟨⟨eq_true a1, eq_true a2⟩, ?_⟩
      have h : (pickV ys z (L.length : Int)).toNat < L.length := by omega
      rw [stRows_get L _ h, st_get h]
    have f1 := fin (V.q + 1) (by omega) (by omega)
    have f2 := fin W.q (by omega) (by omega)
    have g1 := f1.1.1
    have g2 := f1.1.2
    have g3 := f1.2
    have g4 := f2.1.1
    have g5 := f2.1.2
    have g6 := f2.2
    have a3 := pickV_nonneg ys V.q 12 (by omega)
    by_cases h12 : pickV ys V.q 12 = 0
    rotate_left
    · have c12 : (pickV ys V.q 12 = 0) = False := eq_false h12
      have e4 : dfP ys = { V with q := V.q + 1 } := by rw [dfP, e3, if_neg h12]
      have e5 : dfS ys = L.getD (pickV ys (V.q + 1) (L.length : Int)).toNat st0 := by rw [dfS, e4, e1]
      rw [e4, e5]
      simp (maxSteps := 3000000) only [Try.f19, kd1, g_open, g_pick, g_net, g_sent, g_packet, g_addr, g_routes, bytesOf_rows, rowsOf_len, stRows_len, rtRows_len, ← hys, hx, hL', hQ', hV', c12, g1, g2, g3, D.toI, D.toL, ↓reduceIte, Bool.false_eq_true, tYs, evL, implies_true, oMin, oCopy, oBin, oUn, oLoadKid, oStoreTree, oField, oExtract, oNil, oSliceQ, oLen, nodupB, treeOf, kidAbs, kidRows, TK.isCell, D.toL, oLoad, oStore, oMake, oIndexAddr, ↓reduceIte, reduceCtorEq, Nat.reduceBEq, Nat.reduceAdd, Nat.reduceMul, Nat.reduceLT, Nat.reduceSub, Nat.reduceLeDiff, Nat.reduceEqDiff, Nat.reduceBneDiff, Int.reduceToNat, decide_eq_true_eq, decide_eq_false_iff_not, beq_iff_eq, Int.toNat_natCast, doneD_ret, doneD_normal]
      clear g1 g2 g3 g4 g5 g6 f1 f2 fin hL' hQ' hV' hW'
      exact ⟨⟨_, rfl⟩, ⟨by omega, by omega, by omega, by omega⟩, ⟨by omega, by omega⟩, ⟨by omega, by omega⟩, ⟨by omega, by omega⟩, by kernel_rfl, _, rfl, rfl⟩
    have c12 : (pickV ys V.q 12 = 0) = True := eq_true h12
    have e4 : dfP ys = W := by rw [dfP, e3, if_pos h12, hW']
    have e5 : dfS ys = L.getD (pickV ys W.q (L.length : Int)).toNat st0 := by rw [dfS, e4, e1]
    rw [e4, e5]
    simp (maxSteps := 3000000) only [Try.f19, kd1, g_open, g_pick, g_net, g_sent, g_packet, g_addr, g_routes, bytesOf_rows, rowsOf_len, stRows_len, rtRows_len, ← hys, hx, hL', hQ', hV', hW', c12, g4, g5, g6, D.toI, D.toL, ↓reduceIte, Bool.false_eq_true, tYs, evL, implies_true, oMin, oCopy, oBin, oUn, oLoadKid, oStoreTree, oField, oExtract, oNil, oSliceQ, oLen, nodupB, treeOf, kidAbs, kidRows, TK.isCell, D.toL, oLoad, oStore, oMake, oIndexAddr, ↓reduceIte, reduceCtorEq, Nat.reduceBEq, Nat.reduceAdd, Nat.reduceMul, Nat.reduceLT, Nat.reduceSub, Nat.reduceLeDiff, Nat.reduceEqDiff, Nat.reduceBneDiff, Int.reduceToNat, decide_eq_true_eq, decide_eq_false_iff_not, beq_iff_eq, Int.toNat_natCast, doneD_ret, doneD_normal]
    clear g1 g2 g3 g4 g5 g6 f1 f2 fin hL' hQ' hV' hW'
    exact ⟨⟨_, rfl⟩, ⟨by omega, by omega, by omega, by omega⟩, ⟨by omega, by omega⟩, ⟨by omega, by omega⟩, ⟨by omega, by omega⟩, ⟨by omega, by omega⟩, by kernel_rfl, _, rfl, rfl⟩
  · cases hg
end Go.Proofs.Ythbcoakimbpkgaa
