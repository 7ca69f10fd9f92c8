import Derived.Test.YtmhmhgegdagjkaaKk
import Derived.Test.YtmhmhgegdagjkaaVf
import Derived.Test.YtmhmhgegdagjkaaKj
set_option linter.unusedVariables false
set_option linter.unusedSimpArgs false
namespace Go.Proofs.Ytmhmhgegdagjkaa
open Go.RowKit
set_option linter.unusedSimpArgs false
theorem netQ_bd (xs : List UInt8) (p n : Int) (h : p < 100000000000) : p ≤ netQ xs p n ∧ netQ xs p n ≤ p + 112 := by
  have := (netL_bd xs p h).2.2
  have h1 := oneIf_le n
  rw [netQ]; omega
end Go.Proofs.Ytmhmhgegdagjkaa
set_option linter.unusedVariables false
set_option linter.unusedSimpArgs false
namespace Go.Proofs.Ytmhmhgegdagjkaa
open Go.RowKit
set_option linter.unusedSimpArgs false
theorem cut_one {x : Pk} {l : Int} (hc : cutB x l = true) (hu : x.u = true) : cutL x l = [x] := by
  have h : (x.d.length : Int) ≤ l := by
    rw [cutB, hu] at hc
    simp only [Bool.and_eq_true, Bool.or_eq_true, decide_eq_true_eq, Bool.not_true, Bool.false_and, Bool.false_eq_true, or_false] at hc
    exact hc.2
  rw [cutL, if_pos hc, if_pos h]
theorem whole_kept (net : List St) (i : Nat) {p : Pk} (hu : p.u = true) : ∀ k, (∀ x ∈ (tvK net (trS i p) k).row, x.2.u = true ∧ x.2.d = p.d) ∧ ∀ y ∈ (tvK net (trS i p) k).arr, y.d = p.d
  | 0 => ⟨fun x hx => by
      have : x = (i, p) := by simpa [tvK, trS] using hx
      rw [this]; exact ⟨hu, rfl⟩, fun y hy => (by cases hy)⟩
  | k + 1 => by
    have ih := whole_kept net i hu k
    rw [tvK]
    cases hq : (tvK net (trS i p) k).row[k]? with
    | none => exact ih
    | some jq =>
      obtain ⟨j, q⟩ := jq
      have hm := ih.1 _ (List.mem_of_getElem? hq)
      dsimp only at hm ⊢
      rcases fw_cases (net.getD j st0) q with e | ⟨_, ⟨_, e⟩ | ⟨k', n', hb, e⟩ | ⟨r, h1, h2, h3, hc, e⟩⟩
      · rw [e, tvOne, if_neg (by decide), if_neg (by decide)]
        split
        · exact ih
        · simpa [dn0] using ih
      · rw [e, tvOne, if_pos rfl]
        refine ⟨ih.1, fun y hy => ?_⟩
        rcases List.mem_append.1 hy with h | h
        · exact ih.2 y h
        · rw [List.mem_singleton.1 h]; exact hm.2
      · rw [e, tvOne]
        dsimp only
        rw [if_neg (by decide), if_pos rfl]
        exact ih
      · rw [e, tvOne]
        dsimp only
        rw [if_neg (by decide), if_neg (by decide)]
        split
        · exact ih
        · refine ⟨fun x hx => ?_, ih.2⟩
          rcases List.mem_append.1 hx with h | h
          · exact ih.1 x h
          · rw [cut_one hc (show (lessH q).u = true from hm.1)] at h
            rw [List.map_cons, List.map_nil, List.mem_singleton] at h
            rw [h]
            exact hm
theorem whole_go {net : List St} (hn : netB net = true) {i : Nat} (hi : i < net.length) {to : Int} (ht : 0 ≤ to ∧ to ≤ 65535) (h0 : roomV net i to ≠ 0) {n : Nat} (hn0 : 0 < n) (h48 : n ≤ 48) :
    ((n : Int) ≤ roomV net i to → ∃ y, (trV net (i : Int) (tryP 9 to 2 n)).arr = [y] ∧ y.d.length = n) ∧ (roomV net i to < (n : Int) → (trV net (i : Int) (tryP 9 to 2 n)).arr = []) := by
  have h5 : net.length ≤ 5 := by
    have := hn
    simp only [netB, Bool.and_eq_true, decide_eq_true_eq] at this
    exact this.1.1
  have hok := try_ok (a := 9) (pr := 2) (n := n) (by omega) ht (.inr rfl) h48
  have hin : inNet net (i : Int) = true := by rw [inNet, hn, decide_eq_true (by omega)]; rfl
  have hb : trB net (i : Int) (tryP 9 to 2 n) = true := by rw [trB, hin, hok]; rfl
  have hout := tv_sg hn hi hok rfl (show (2 : Int) ≠ 1 by omega) rfl
  have e1 : (tryP 9 to 2 n).d.length = n := List.length_replicate ..
  have e2 : (tryP 9 to 2 n).t = to := rfl
  have e3 : (tryP 9 to 2 n).h.toNat = 64 := rfl
  rw [e1, e2, e3] at hout
  rw [(tr_yes hb).1, Int.toNat_natCast]
  have hout : outc (tvK net (trS i (tryP 9 to 2 n)) (tvT net (trS i (tryP 9 to 2 n)))) (sg net to n 64 i) := hout
  obtain ⟨R, hp⟩ := room_yes h0
  have hR : roomV net i to = R := by rw [roomV, hp]; rfl
  have hw := sg_way (n := n) (h := 64) hp (by omega)
  rw [hR]
  refine ⟨fun h => ?_, fun h => ?_⟩
  · rw [hw.1 h] at hout
    obtain ⟨⟨q, hq⟩, -⟩ := hout
    refine ⟨q, hq, ?_⟩
    have := (whole_kept net i (p := tryP 9 to 2 n) rfl (tvT net (trS i (tryP 9 to 2 n)))).2 q (by rw [hq]; exact List.mem_singleton_self _)
    rw [this]; exact e1
  · obtain ⟨v, hv, _⟩ := hw.2 h48 h
    rw [hv] at hout
    exact hout.1
def dwN (xs : List UInt8) : List St := netV xs 0 0
def dwQ (xs : List UInt8) : Int := netQ xs 0 0
def g_drawRw : PC := fun args => match args with
  | [.l _ rows] => some (∃ xs, rows = rowsOfBytes xs, .tup [.l 2 (stRows (dwN ((bytesOfRows rows).take 2000))), .v (.int .i64 (pickV ((bytesOfRows rows).take 2000) (dwQ ((bytesOfRows rows).take 2000)) ((dwN ((bytesOfRows rows).take 2000)).length))), .v (.int .i64 (10 + pickV ((bytesOfRows rows).take 2000) (dwQ ((bytesOfRows rows).take 2000) + 1) 6))], [])
  | _ => none
def kdw : List (FuncId × Abs) := [(31, ownAbs g_open), (33, ownAbs g_pick), (32, ownAbs g_net)]
theorem kdw_ok : ∀ p ∈ kdw, CallOk Try.prog p.1 p.2 := by
  intro p hp
  simp only [kdw, List.mem_cons, List.not_mem_nil, or_false] at hp
  rcases hp with rfl | rfl | rfl
  · exact open_ok.call
  · exact pick_ok.call
  · exact l20Net_ok.call
set_option maxHeartbeats 8000000 in
set_option maxRecDepth 100000 in
theorem drawRoomWay_ok : OwnOk Try.prog 15 (ocOf g_drawRw) := by
  refine OwnOk.of_vcD (G := kdw) kdw_ok mixed Try.func15 (by kernel_rfl) rfl ?_
  intro args cnd r bs hg hc
  unfold g_drawRw at hg
  split at hg
  · rename_i sz rows
    cases hg
    obtain ⟨xs, rfl⟩ := hc
    rw [bytesOf_rows]
    refine ⟨⟨rfl, by simp [AV.ids, AV.ids.idsL]⟩, [.l 1 (rowsOfBytes xs)], rfl, fun w Z s vs h => CvL.ok (.cons (.l _ _ _ (rowsOf_w xs)) .nil) h, ?_⟩
    obtain ⟨ys, hys⟩ : ∃ ys, ys = List.take 2000 xs := ⟨_, rfl⟩
    rw [← hys]
    have hyl : ys.length ≤ 2000 := by rw [hys, List.length_take]; omega
    have hx : (∃ zs, rowsOfBytes ys = rowsOfBytes zs ∧ zs.length ≤ 2000) = True := eq_true ⟨_, rfl, hyl⟩
    have hnb := netV_bd ys 0 0 (by omega)
    have hqb := netQ_bd ys 0 0 (by omega)
    obtain ⟨L, hL⟩ : ∃ L, L = netV ys 0 0 := ⟨_, rfl⟩
    have hL' := hL.symm
    obtain ⟨Q, hQ⟩ : ∃ Q, Q = netQ ys 0 0 := ⟨_, rfl⟩
    have hQ' := hQ.symm
    rw [hL'] at hnb
    rw [hQ'] at hqb
    have e1 : dwN ys = L := hL'
    have e2 : dwQ ys = Q := hQ'
    rw [e1, e2]
    have a1 := pickV_nonneg ys (Q + 1) 6 (by omega)
    have a2 := pickV_lt ys (Q + 1) 6 (by omega)
    have w1 : IntKind.i64.wrap (10 + pickV ys (Q + 1) 6) = 10 + pickV ys (Q + 1) 6 := wrap_id (by omega) (by omega)
    simp (maxSteps := 3000000) only [Try.f15, kdw, g_open, g_pick, g_net, bytesOf_rows, rowsOf_len, stRows_len, ← hys, hx, hL', hQ', w1, D.toI, D.toL, ↓reduceIte, Bool.false_eq_true, tYs, evL, implies_true, oMin, oCopy, oBin, oUn, oLoadKid, oStoreTree, oField, oExtract, oNil, oSliceQ, oLen, nodupB, treeOf, kidAbs, kidRows, TK.isCell, D.toL, oLoad, oStore, oMake, oIndexAddr, ↓reduceIte, reduceCtorEq, Nat.reduceBEq, Nat.reduceAdd, Nat.reduceMul, Nat.reduceLT, Nat.reduceSub, Nat.reduceLeDiff, Nat.reduceEqDiff, Nat.reduceBneDiff, Int.reduceToNat, decide_eq_true_eq, decide_eq_false_iff_not, beq_iff_eq, Int.toNat_natCast, doneD_ret, doneD_normal]
    clear w1 hL' hQ'
    (repeat (refine And.intro ?_ ?_; focus (((repeat' apply And.intro) <;> first | exact rowsOf_w _ | omega | (simp only [List.length_append, rowsOf_len, List.length_cons, List.length_nil, marks_len, List.length_take, List.length_drop, List.length_set]; omega) | exact ⟨_, rfl⟩ | (refine ⟨_, rfl, ?_⟩; omega) | (refine ⟨_, rfl, ?_⟩; simp only [List.length_append, rowsOf_len, List.length_cons, List.length_nil, marks_len, List.length_take, List.length_drop, List.length_set]; omega) | kernel_rfl | (simp; done)); done)))
    exact ⟨_, rfl, rfl⟩
  · cases hg
def lwr : List (FuncId × Abs) := [(12, pureAbs g_alive), (16, pureAbs g_findRoom), (17, pureAbs g_findRoom), (9, frzAbs g_travelD), (15, ownAbs (ocOf g_drawRw))]
theorem lwr_ok : ∀ p ∈ lwr, CallOk Try.prog p.1 p.2 := by
  intro p hp
  simp only [lwr, List.mem_cons, List.not_mem_nil, or_false] at hp
  rcases hp with rfl | rfl | rfl | rfl | rfl
  · exact alive_ok.call
  · exact implFindRoom_ok.call
  · exact specFindRoom_ok.call
  · exact implTravelD_ok.callF
  · exact drawRoomWay_ok.call
set_option maxHeartbeats 8000000 in
set_option maxRecDepth 100000 in
theorem lawWholeRoom_ok : PureOk Try.prog 4 g_true := by
  refine PureOk.of_vc (G := lwr) lwr_ok mixed Try.func4 (by kernel_rfl) rfl ?_
  intro args cnd r bs hg hc
  unfold g_true at hg
  split at hg
  · rename_i sz rows
    cases hg
    obtain ⟨xs, rfl⟩ := hc
    refine ⟨⟨rfl, by simp, by simp [AV.ids, AV.ids.idsL]⟩, [.l 1 (rowsOfBytes xs)], rfl, fun w vs h => CvL.ok (.cons (.l _ _ _ (rowsOf_w xs)) .nil) h, ?_⟩
    obtain ⟨ys, hys⟩ : ∃ ys, ys = List.take 2000 xs := ⟨_, rfl⟩
    by_cases h20 : (xs.length : Int) > 1048576
    · have e20 : ((xs.length : Int) > 1048576) = True := eq_true h20
      simp (maxSteps := 3000000) only [Try.f4, lwr, e20, g_alive, g_findRoom, g_travelD, ocOf, g_drawRw, bytesOf_rows, rowsOf_len, stsOf_rows, rtsOf_rows, stRows_len, rtRows_len, ↓reduceIte, Bool.false_eq_true, D.toI, D.toL, tYs, evL, implies_true, oMin, oCopy, oBin, oUn, oLoadKid, oStoreTree, oField, oExtract, oNil, oSliceQ, oLen, nodupB, treeOf, kidAbs, kidRows, TK.isCell, D.toL, oLoad, oStore, oMake, oIndexAddr, ↓reduceIte, reduceCtorEq, Nat.reduceBEq, Nat.reduceAdd, Nat.reduceMul, Nat.reduceLT, Nat.reduceSub, Nat.reduceLeDiff, Nat.reduceEqDiff, Nat.reduceBneDiff, Int.reduceToNat, decide_eq_true_eq, decide_eq_false_iff_not, beq_iff_eq, Int.toNat_natCast, loopK_normal, loopK_exit, loopK_ret, bne_self_eq_false]
      exact ⟨_, [], rfl, ⟨⟨⟨rfl, rfl, rfl⟩, trivial⟩, trivial, by simp [rn, hpAt]⟩⟩
    have e20 : ((xs.length : Int) > 1048576) = False := eq_false h20
    have hnb := netV_bd ys 0 0 (by omega)
    have hqb : 0 ≤ dwQ ys ∧ dwQ ys ≤ 0 + 112 := netQ_bd ys 0 0 (by omega)
    have hi0 := pickV_nonneg ys (dwQ ys) ((netV ys 0 0).length : Int) (by omega)
    have hi1 := pickV_lt ys (dwQ ys) ((netV ys 0 0).length : Int) (by omega)
    have ht0 := pickV_nonneg ys (dwQ ys + 1) 6 (by omega)
    have ht1 := pickV_lt ys (dwQ ys + 1) 6 (by omega)
    obtain ⟨N, hN⟩ : ∃ N, N = dwN ys := ⟨_, rfl⟩
    have hN' := hN.symm
    rw [show netV ys 0 0 = N from hN'] at hnb hi0 hi1
    obtain ⟨I, hI⟩ : ∃ I, I = pickV ys (dwQ ys) (N.length : Int) := ⟨_, rfl⟩
    have hI' := hI.symm
    rw [hI'] at hi0 hi1
    obtain ⟨T, hT⟩ : ∃ T, T = 10 + pickV ys (dwQ ys + 1) 6 := ⟨_, rfl⟩
    have hT' := hT.symm
    have hTb : 10 ≤ T ∧ T ≤ 15 := by omega
    have hmid : sMid N := ⟨by omega, fun x hx => by have := hnb.2 x hx; omega⟩
    clear hN hI hT ht0 ht1
    obtain ⟨F, hF⟩ : ∃ F, F = fdV N I T 48 := ⟨_, rfl⟩
    have hF' := hF.symm
    obtain ⟨j, rfl⟩ : ∃ j : Nat, I = (j : Int) := ⟨I.toNat, by omega⟩
    have hj : j < N.length := by omega
    by_cases h0 : F = 0
    · simp (maxSteps := 3000000) only [Try.f4, lwr, e20, ← hys, hN', hI', hT', hF', pRows_len, h0, g_alive, g_findRoom, g_travelD, ocOf, g_drawRw, bytesOf_rows, rowsOf_len, stsOf_rows, rtsOf_rows, stRows_len, rtRows_len, ↓reduceIte, Bool.false_eq_true, D.toI, D.toL, tYs, evL, implies_true, oMin, oCopy, oBin, oUn, oLoadKid, oStoreTree, oField, oExtract, oNil, oSliceQ, oLen, nodupB, treeOf, kidAbs, kidRows, TK.isCell, D.toL, oLoad, oStore, oMake, oIndexAddr, ↓reduceIte, reduceCtorEq, Nat.reduceBEq, Nat.reduceAdd, Nat.reduceMul, Nat.reduceLT, Nat.reduceSub, Nat.reduceLeDiff, Nat.reduceEqDiff, Nat.reduceBneDiff, Int.reduceToNat, decide_eq_true_eq, decide_eq_false_iff_not, beq_iff_eq, Int.toNat_natCast, loopK_normal, loopK_exit, loopK_ret, bne_self_eq_false, ↓reduceIte, Bool.not_true, Bool.not_false, beq_self_eq_true]
      refine ⟨⟨xs, rfl⟩, ⟨N, rfl, hmid⟩, ⟨N, rfl, hmid⟩, ?_⟩
      exact ⟨_, [], rfl, ⟨⟨⟨rfl, rfl, rfl⟩, trivial⟩, trivial, by simp [rn, hpAt]⟩⟩
    have hin48 : inZ 48 1 48 = true := rfl
    have hrb : rmB N (j : Int) T = true := by
      cases h : rmB N (j : Int) T with
      | true => rfl
      | false => exact absurd (by rw [hF, fdV, h]; rfl) h0
    have hnet : netB N = true := by rw [rmB, Bool.and_eq_true] at hrb; exact (inNet_of hrb.1).1
    have hr := room_le hnet j T
    have hFr : F = roomV N j T := by rw [hF, fdV, hrb, hin48, Bool.true_and, if_pos rfl, Int.toNat_natCast, Int.min_def]; split <;> omega
    have hr0 : roomV N j T ≠ 0 := by rw [← hFr]; exact h0
    obtain ⟨m, hm⟩ : ∃ m : Nat, F = (m : Int) := ⟨F.toNat, by omega⟩
    have hm0 : 0 < m := by omega
    have hm48 : m ≤ 48 := by omega
    obtain ⟨y, hy, hyl⟩ := (whole_go hnet hj (to := T) (by omega) hr0 hm0 hm48).1 (by omega)
    obtain ⟨D, hD⟩ : ∃ D, trV N (j : Int) (tryP 9 T 2 m) = D := ⟨_, rfl⟩
    rw [hD] at hy
    have hD' : trV N (j : Int) ⟨9, T, 2, 64, 0, 0, false, true, List.replicate m 0⟩ = D := hD
    obtain ⟨R, A, W⟩ := D
    dsimp only at hy
    subst hy
    clear hD
    subst hm
    have hrep : List.replicate m [D.v (.int .u8 0)] = rowsOfBytes (List.replicate m 0) := (rowsOf_zero m).symm
    have hxs : (∃ xs : List UInt8, rowsOfBytes (List.replicate m 0) = rowsOfBytes xs ∧ xs.length ≤ 1048576) = True := eq_true ⟨_, rfl, by rw [List.length_replicate]; omega⟩
    have hg2 : (0 ≤ (m : Int)) = True := eq_true (by omega)
    have k0 : ((m : Int) = 0) = False := eq_false (by omega)
    by_cases h48 : m = 48
    · have k1 : ((m : Int) = 48) = True := eq_true (by omega)
      simp (maxSteps := 3000000) only [Try.f4, lwr, e20, ← hys, hN', hI', hT', hF', pRows_len, k0, k1, hD', hrep, hxs, hg2, g_alive, g_findRoom, g_travelD, ocOf, g_drawRw, bytesOf_rows, rowsOf_len, stsOf_rows, rtsOf_rows, stRows_len, rtRows_len, ↓reduceIte, Bool.false_eq_true, D.toI, D.toL, tYs, evL, implies_true, oMin, oCopy, oBin, oUn, oLoadKid, oStoreTree, oField, oExtract, oNil, oSliceQ, oLen, nodupB, treeOf, kidAbs, kidRows, TK.isCell, D.toL, oLoad, oStore, oMake, oIndexAddr, ↓reduceIte, reduceCtorEq, Nat.reduceBEq, Nat.reduceAdd, Nat.reduceMul, Nat.reduceLT, Nat.reduceSub, Nat.reduceLeDiff, Nat.reduceEqDiff, Nat.reduceBneDiff, Int.reduceToNat, decide_eq_true_eq, decide_eq_false_iff_not, beq_iff_eq, Int.toNat_natCast, loopK_normal, loopK_exit, loopK_ret, bne_self_eq_false, ↓reduceIte, Bool.not_true, Bool.not_false, beq_self_eq_true]
      refine ⟨⟨xs, rfl⟩, ⟨N, rfl, hmid⟩, ⟨N, rfl, hmid⟩, ⟨by omega, by omega, by omega⟩, ⟨N, rfl, hmid⟩, ?_⟩
      exact ⟨_, [], rfl, ⟨⟨⟨rfl, rfl, rfl⟩, trivial⟩, trivial, by simp [rn, hpAt]⟩⟩
    have k1 : ((m : Int) = 48) = False := eq_false (by omega)
    have hmore := (whole_go hnet hj (to := T) (by omega) hr0 (n := m + 1) (by omega) (by omega)).2 (by omega)
    obtain ⟨D2, hD2⟩ : ∃ D, trV N (j : Int) (tryP 9 T 2 (m + 1)) = D := ⟨_, rfl⟩
    rw [hD2] at hmore
    obtain ⟨Y, hY⟩ : ∃ Y : List UInt8, List.replicate (m + 1) 0 = Y := ⟨_, rfl⟩
    have hYl : Y.length = m + 1 := by rw [← hY, List.length_replicate]
    have hD2' : trV N (j : Int) ⟨9, T, 2, 64, 0, 0, false, true, Y⟩ = D2 := by rw [← hY]; exact hD2
    obtain ⟨R2, A2, W2⟩ := D2
    dsimp only at hmore
    subst hmore
    clear hD2
    have hrep2 : List.replicate (m + 1) [D.v (.int .u8 0)] = rowsOfBytes Y := by rw [← hY]; exact (rowsOf_zero (m + 1)).symm
    have hxs2 : (∃ xs : List UInt8, rowsOfBytes Y = rowsOfBytes xs ∧ xs.length ≤ 1048576) = True := eq_true ⟨_, rfl, by omega⟩
    have hone : (((1 : Nat) : Int) = 1) = True := eq_true rfl
    have hone2 : (((1 : Nat) : Int) == 1) = true := rfl
    have hz1 : (((0 : Nat) : Int) == 0) = true := rfl
    have hrow : (pRows [y]).getD 0 [] = pRow y := rfl
    have wm : IntKind.i64.wrap ((m : Int) + 1) = ((m + 1 : Nat) : Int) := wrap_id (by omega) (by omega)
    have hg3 : (0 ≤ ((m + 1 : Nat) : Int)) = True := eq_true (by omega)
    simp (maxSteps := 3000000) only [Try.f4, lwr, e20, ← hys, hN', hI', hT', hF', pRows_len, k0, k1, hD', hD2', hrep, hrep2, hxs, hxs2, hg2, hg3, wm, hyl, hone, hone2, hz1, hrow, pRow, g_alive, g_findRoom, g_travelD, ocOf, g_drawRw, bytesOf_rows, rowsOf_len, stsOf_rows, rtsOf_rows, stRows_len, rtRows_len, ↓reduceIte, Bool.false_eq_true, D.toI, D.toL, tYs, evL, implies_true, oMin, oCopy, oBin, oUn, oLoadKid, oStoreTree, oField, oExtract, oNil, oSliceQ, oLen, nodupB, treeOf, kidAbs, kidRows, TK.isCell, D.toL, oLoad, oStore, oMake, oIndexAddr, ↓reduceIte, reduceCtorEq, Nat.reduceBEq, Nat.reduceAdd, Nat.reduceMul, Nat.reduceLT, Nat.reduceSub, Nat.reduceLeDiff, Nat.reduceEqDiff, Nat.reduceBneDiff, Int.reduceToNat, decide_eq_true_eq, decide_eq_false_iff_not, beq_iff_eq, Int.toNat_natCast, loopK_normal, loopK_exit, loopK_ret, bne_self_eq_false, ↓reduceIte, Bool.not_true, Bool.not_false, beq_self_eq_true]
    refine ⟨⟨xs, rfl⟩, ⟨N, rfl, hmid⟩, ⟨N, rfl, hmid⟩, ⟨by omega, by omega, by omega⟩, ⟨N, rfl, hmid⟩, ⟨by omega, by omega, by omega⟩, ⟨N, rfl, hmid⟩, ⟨by omega, by omega⟩, ?_⟩
    exact ⟨_, [], rfl, ⟨⟨⟨rfl, rfl, rfl⟩, trivial⟩, trivial, by simp [rn, hpAt]⟩⟩
  · cases hg
theorem walk_WholeRoom (A : Option Addr) (n c : Nat) (xs : List UInt8) (w : World) (h : Rd w w.heap.size A n (bv xs)) (hc : n ≤ c) :
    Calls Try.prog 4 #[.slice A n c] w fun e w' => e = .returned (.bool true) ∧ Below w.heap.size w w' :=
  lawWholeRoom_ok.walk (vs := [_]) (arel_cons (.l _ _ _ (rep_of_rd h hc)) arel_nil) rfl ⟨xs, rfl⟩
end Go.Proofs.Ytmhmhgegdagjkaa
