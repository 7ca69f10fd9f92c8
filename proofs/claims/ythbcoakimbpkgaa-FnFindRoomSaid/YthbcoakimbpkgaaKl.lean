import Derived.Test.YthbcoakimbpkgaaKk
import Derived.Test.YthbcoakimbpkgaaVf
set_option linter.unusedVariables false
set_option linter.unusedSimpArgs false
namespace Go.Proofs.Ythbcoakimbpkgaa
open Go.RowKit
set_option linter.unusedSimpArgs false
def hopsV (i : Int) : Int := [64, 64, 1, 2, 3, 4].getD i.toNat 0
def sentV (xs : List UInt8) (p : Int) : PkV :=
  if 0 < pickV xs ((pktV xs p 0).q + 1 + 1) 3 then { pktV xs p 0 with t := 10 + pickV xs (pktV xs p 0).q 6, h := hopsV (pickV xs ((pktV xs p 0).q + 1) 6), a := 0, m := false, q := (pktV xs p 0).q + 1 + 1 + 1 }
  else { pktV xs p 0 with t := 10 + pickV xs (pktV xs p 0).q 6, h := hopsV (pickV xs ((pktV xs p 0).q + 1) 6), q := (pktV xs p 0).q + 1 + 1 + 1 }
theorem netQ_bd (xs : List UInt8) (p n : Int) (h : p < 100000000000) : p ≤ netQ xs p n ∧ netQ xs p n ≤ p + 112 := by
  have := (netL_bd xs p h).2.2
  have h1 := oneIf_le n
  rw [netQ]; omega
def g_sent : OC := fun args B0 => match args, B0 with
  | [.ptr r o, .l _ nr], [.var T [.l 1 rows, .v (.int .i64 p)]] => some (T = 125 ∧ r = 0 ∧ o = 0 ∧ (∃ xs, rows = rowsOfBytes xs ∧ xs.length ≤ 2000) ∧ 0 ≤ p ∧ p < 10000000000, .agg [.v (.int .i64 (sentV (bytesOfRows rows) p).f), .v (.int .i64 (sentV (bytesOfRows rows) p).t), .v (.int .i64 (sentV (bytesOfRows rows) p).pr), .v (.int .i64 (sentV (bytesOfRows rows) p).h), .v (.int .i64 (sentV (bytesOfRows rows) p).i), .v (.int .i64 (sentV (bytesOfRows rows) p).a), .v (.bool (sentV (bytesOfRows rows) p).m), .v (.bool (sentV (bytesOfRows rows) p).u), .l 1 (rowsOfBytes (sentV (bytesOfRows rows) p).d)], [.var T [.l 1 rows, .v (.int .i64 (sentV (bytesOfRows rows) p).q)]], [])
  | _, _ => none
def kns : List (FuncId × Abs) := [(69, ownAbs g_pick), (70, ownAbs g_packet)]
theorem kns_ok : ∀ p ∈ kns, CallOk Try.prog p.1 p.2 := by
  intro p hp
  simp only [kns, List.mem_cons, List.not_mem_nil, or_false] at hp
  rcases hp with rfl | rfl
  · exact pick_ok.call
  · exact packet_ok.call
set_option maxHeartbeats 4000000 in
set_option maxRecDepth 100000 in
theorem l20Sent_ok : OwnOk Try.prog 68 g_sent := by
  refine OwnOk.of_vcL (G := kns) kns_ok mixed Try.func68 (by kernel_rfl) rfl ?_
  intro args B0 cnd r B1 bs hg hc hlive
  unfold g_sent at hg
  split at hg
  · rename_i r o sn nr T rows p
    cases hg
    obtain ⟨rfl, rfl, rfl, ⟨xs, rfl, hl⟩, hp0, hp1⟩ := hc
    rw [bytesOf_rows]
    have hb := pktV_q xs p 0
    obtain ⟨V, hV⟩ : ∃ V, V = pktV xs p 0 := ⟨_, rfl⟩
    have hV' := hV.symm
    rw [hV'] at hb
    have a1 := pickV_nonneg xs V.q 6 (by omega)
    have a2 := pickV_lt xs V.q 6 (by omega)
    have a3 := pickV_nonneg xs (V.q + 1) 6 (by omega)
    have a4 := pickV_lt xs (V.q + 1) 6 (by omega)
    have w1 : IntKind.i64.wrap (10 + pickV xs V.q 6) = 10 + pickV xs V.q 6 := wrap_id (by omega) (by omega)
    have r1 := lit_get [64, 64, 1, 2, 3, 4] (pickV xs (V.q + 1) 6).toNat (by simp only [List.length_cons, List.length_nil]; omega)
    simp only [List.map_cons, List.map_nil] at r1
    rw [← hopsV] at r1
    have h6 : (pickV xs (V.q + 1) 6 < 6) = True := eq_true a4
    refine ⟨⟨by simp [likeBs, likeB], rfl, fun b hb => by simp at hb; subst hb; exact ⟨_, _, rfl, rfl⟩, by simp [AV.ids, AV.ids.idsL]⟩, _, rfl, fun w Z s vs h => h, ?_⟩
    clear hlive
    have hx : (∃ ys, rowsOfBytes xs = rowsOfBytes ys ∧ ys.length ≤ 2000) = True := eq_true ⟨xs, rfl, hl⟩
    by_cases h3 : 0 < pickV xs (V.q + 1 + 1) 3
    · have c3 : (pickV xs (V.q + 1 + 1) 3 > 0) = True := eq_true h3
      have hv : sentV xs p = { V with t := 10 + pickV xs V.q 6, h := hopsV (pickV xs (V.q + 1) 6), a := 0, m := false, q := V.q + 1 + 1 + 1 } := by rw [sentV, hV', if_pos h3]
      rw [hv]
      simp (maxSteps := 3000000) only [Try.f68, kns, g_pick, g_packet, bytesOf_rows, rowsOf_len, hV', w1, r1, c3, hx, D.toI, D.toL, ↓reduceIte, Bool.false_eq_true, doneL_ret, doneL_normal, tYs, evL, implies_true, oMin, oCopy, oBin, oUn, oLoadKid, oStoreTree, oField, oExtract, oNil, oSliceQ, oLen, nodupB, treeOf, kidAbs, kidRows, TK.isCell, D.toL, oLoad, oStore, oMake, oIndexAddr, ↓reduceIte, reduceCtorEq, Nat.reduceBEq, Nat.reduceAdd, Nat.reduceMul, Nat.reduceLT, Nat.reduceSub, Nat.reduceLeDiff, Nat.reduceEqDiff, Nat.reduceBneDiff, Int.reduceToNat, decide_eq_true_eq, decide_eq_false_iff_not, beq_iff_eq, Int.toNat_natCast]
      clear hV' hv r1
      (repeat (refine And.intro ?_ ?_; focus (((repeat' apply And.intro) <;> first | exact rowsOf_w _ | omega | (simp only [List.length_append, rowsOf_len, List.length_cons, List.length_nil, marks_len, List.length_take, List.length_drop, List.length_set]; omega) | exact ⟨_, rfl⟩ | (refine ⟨_, rfl, ?_⟩; omega) | (refine ⟨_, rfl, ?_⟩; simp only [List.length_append, rowsOf_len, List.length_cons, List.length_nil, marks_len, List.length_take, List.length_drop, List.length_set]; omega) | kernel_rfl | (simp; done)); done)))
      exact ⟨_, rfl, rfl, rfl⟩
    · have c3 : (pickV xs (V.q + 1 + 1) 3 > 0) = False := eq_false h3
      have hv : sentV xs p = { V with t := 10 + pickV xs V.q 6, h := hopsV (pickV xs (V.q + 1) 6), q := V.q + 1 + 1 + 1 } := by rw [sentV, hV', if_neg h3]
      rw [hv]
      simp (maxSteps := 3000000) only [Try.f68, kns, g_pick, g_packet, bytesOf_rows, rowsOf_len, hV', w1, r1, c3, hx, D.toI, D.toL, ↓reduceIte, Bool.false_eq_true, doneL_ret, doneL_normal, tYs, evL, implies_true, oMin, oCopy, oBin, oUn, oLoadKid, oStoreTree, oField, oExtract, oNil, oSliceQ, oLen, nodupB, treeOf, kidAbs, kidRows, TK.isCell, D.toL, oLoad, oStore, oMake, oIndexAddr, ↓reduceIte, reduceCtorEq, Nat.reduceBEq, Nat.reduceAdd, Nat.reduceMul, Nat.reduceLT, Nat.reduceSub, Nat.reduceLeDiff, Nat.reduceEqDiff, Nat.reduceBneDiff, Int.reduceToNat, decide_eq_true_eq, decide_eq_false_iff_not, beq_iff_eq, Int.toNat_natCast]
      clear hV' hv r1
      (repeat (refine And.intro ?_ ?_; focus (((repeat' apply And.intro) <;> first | exact rowsOf_w _ | omega | (simp only [List.length_append, rowsOf_len, List.length_cons, List.length_nil, marks_len, List.length_take, List.length_drop, List.length_set]; omega) | exact ⟨_, rfl⟩ | (refine ⟨_, rfl, ?_⟩; omega) | (refine ⟨_, rfl, ?_⟩; simp only [List.length_append, rowsOf_len, List.length_cons, List.length_nil, marks_len, List.length_take, List.length_drop, List.length_set]; omega) | kernel_rfl | (simp; done)); done)))
      exact ⟨_, rfl, rfl, rfl⟩
  · cases hg
def dtN (xs : List UInt8) : List St := netV xs 0 20
def dtQ (xs : List UInt8) : Int := netQ xs 0 20
def g_drawFr : PC := fun args => match args with
  | [.l _ rows] => some (∃ xs, rows = rowsOfBytes xs, .tup [.l 2 (stRows (dtN ((bytesOfRows rows).take 2000))), .v (.int .i64 (pickV ((bytesOfRows rows).take 2000) (dtQ ((bytesOfRows rows).take 2000)) ((dtN ((bytesOfRows rows).take 2000)).length))), .v (.int .i64 (10 + pickV ((bytesOfRows rows).take 2000) (dtQ ((bytesOfRows rows).take 2000) + 1) 6)), .v (.int .i64 (pickV ((bytesOfRows rows).take 2000) (dtQ ((bytesOfRows rows).take 2000) + 1 + 1) 50))], [])
  | _ => none
def kd1 : List (FuncId × Abs) := [(59, ownAbs g_open), (69, ownAbs g_pick), (67, ownAbs g_net), (68, ownAbs g_sent), (70, ownAbs g_packet), (60, ownAbs g_addr), (61, ownAbs g_routes)]
theorem kd1_ok : ∀ p ∈ kd1, CallOk Try.prog p.1 p.2 := by
  intro p hp
  simp only [kd1, List.mem_cons, List.not_mem_nil, or_false] at hp
  rcases hp with rfl | rfl | rfl | rfl | rfl | rfl | rfl
  · exact open_ok.call
  · exact pick_ok.call
  · exact l20Net_ok.call
  · exact l20Sent_ok.call
  · exact packet_ok.call
  · exact addr_ok.call
  · exact routes_ok.call
set_option maxHeartbeats 8000000 in
set_option maxRecDepth 100000 in
theorem drawFindRoom_ok : OwnOk Try.prog 38 (ocOf g_drawFr) := by
  refine OwnOk.of_vcD (G := kd1) kd1_ok mixed Try.func38 (by kernel_rfl) rfl ?_
  intro args cnd r bs hg hc
  unfold g_drawFr at hg
  split at hg
  · rename_i sz rows
    cases hg
    obtain ⟨xs, rfl⟩ := hc
    rw [bytesOf_rows]
    refine ⟨⟨rfl, by simp [AV.ids, AV.ids.idsL]⟩, [.l 1 (rowsOfBytes xs)], rfl, fun w Z s vs h => CvL.ok (.cons (.l _ _ _ (rowsOf_w xs)) .nil) h, ?_⟩
    obtain ⟨ys, hys⟩ : ∃ ys, ys = List.take 2000 xs := ⟨_, rfl⟩
    rw [← hys]
    have hyl : ys.length ≤ 2000 := by rw [hys, List.length_take]; omega
    have hx : (∃ zs, rowsOfBytes ys = rowsOfBytes zs ∧ zs.length ≤ 2000) = True := eq_true ⟨_, rfl, hyl⟩
    have hnb := netV_bd ys 0 20 (by omega)
    have hqb := netQ_bd ys 0 20 (by omega)
    obtain ⟨L, hL⟩ : ∃ L, L = netV ys 0 20 := ⟨_, rfl⟩
    have hL' := hL.symm
    obtain ⟨Q, hQ⟩ : ∃ Q, Q = netQ ys 0 20 := ⟨_, rfl⟩
    have hQ' := hQ.symm
    rw [hL'] at hnb
    rw [hQ'] at hqb
    have a3 := pickV_nonneg ys (Q + 1) 6 (by omega)
    have a4 := pickV_lt ys (Q + 1) 6 (by omega)
    have w1 : IntKind.i64.wrap (10 + pickV ys (Q + 1) 6) = 10 + pickV ys (Q + 1) 6 := wrap_id (by omega) (by omega)
    have e1 : dtN ys = L := hL'
    have e2 : dtQ ys = Q := hQ'
    rw [e1, e2]
    simp (maxSteps := 3000000) only [Try.f38, kd1, g_open, g_pick, g_net, g_sent, g_packet, g_addr, g_routes, bytesOf_rows, rowsOf_len, stRows_len, rtRows_len, ← hys, hx, hL', hQ', w1, D.toI, D.toL, ↓reduceIte, Bool.false_eq_true, tYs, evL, implies_true, oMin, oCopy, oBin, oUn, oLoadKid, oStoreTree, oField, oExtract, oNil, oSliceQ, oLen, nodupB, treeOf, kidAbs, kidRows, TK.isCell, D.toL, oLoad, oStore, oMake, oIndexAddr, ↓reduceIte, reduceCtorEq, Nat.reduceBEq, Nat.reduceAdd, Nat.reduceMul, Nat.reduceLT, Nat.reduceSub, Nat.reduceLeDiff, Nat.reduceEqDiff, Nat.reduceBneDiff, Int.reduceToNat, decide_eq_true_eq, decide_eq_false_iff_not, beq_iff_eq, Int.toNat_natCast, doneD_ret, doneD_normal]
    clear w1 hL' hQ'
    (repeat (refine And.intro ?_ ?_; focus (((repeat' apply And.intro) <;> first | exact rowsOf_w _ | omega | (simp only [List.length_append, rowsOf_len, List.length_cons, List.length_nil, marks_len, List.length_take, List.length_drop, List.length_set]; omega) | exact ⟨_, rfl⟩ | (refine ⟨_, rfl, ?_⟩; omega) | (refine ⟨_, rfl, ?_⟩; simp only [List.length_append, rowsOf_len, List.length_cons, List.length_nil, marks_len, List.length_take, List.length_drop, List.length_set]; omega) | kernel_rfl | (simp; done)); done)))
    exact ⟨_, rfl, rfl⟩
  · cases hg
end Go.Proofs.Ythbcoakimbpkgaa
