import Derived.Test.YtmhmhgegdagjkaaKk
import Derived.Test.YtmhmhgegdagjkaaVf
import Derived.Test.YtmhmhgegdagjkaaKi
import Derived.Test.YtmhmhgegdagjkaaXe
set_option linter.unusedVariables false
set_option linter.unusedSimpArgs false
namespace Go.Proofs.Ytmhmhgegdagjkaa
open Go.RowKit
set_option linter.unusedSimpArgs false
theorem netQ_bd (xs : List UInt8) (p n : Int) (h : p < 100000000000) : p ≤ netQ xs p n ∧ netQ xs p n ≤ p + 112 := by
  have := (netL_bd xs p h).2.2
  have h1 := oneIf_le n
  rw [netQ]; omega
end Go.Proofs.Ytmhmhgegdagjkaa
set_option linter.unusedVariables false
set_option linter.unusedSimpArgs false
namespace Go.Proofs.Ytmhmhgegdagjkaa
open Go.RowKit
set_option linter.unusedSimpArgs false
def daN (xs : List UInt8) : List St := netV xs 0 0
def daQ (xs : List UInt8) : Int := netQ xs 0 0
def daI (xs : List UInt8) : Int := pickV xs (daQ xs) ((daN xs).length)
def daT (xs : List UInt8) : Int := 10 + pickV xs (daQ xs + 1) ((daN xs).length)
def daD (xs : List UInt8) : List UInt8 := bytesV xs (daQ xs + 1 + 1 + 1) (1 + pickV xs (daQ xs + 1 + 1) 20).toNat
def g_drawAr : PC := fun args => match args with
  | [.l _ rows] => some (∃ xs, rows = rowsOfBytes xs, .tup [.l 2 (stRows (daN ((bytesOfRows rows).take 2000))), .v (.int .i64 (daI ((bytesOfRows rows).take 2000))), .v (.int .i64 (daT ((bytesOfRows rows).take 2000))), .l 1 (rowsOfBytes (daD ((bytesOfRows rows).take 2000)))], [])
  | _ => none
def g_hearO : PC := fun args => match args with
  | [.l _ rows', .agg [.v (.int .i64 f), .v (.int .i64 t), .v (.int .i64 p), .v (.int .i64 h), .v (.int .i64 i), .v (.int .i64 a), .v (.bool m), .v (.bool u), .l _ rows], .v (.int .i64 n)] => some ((∃ l, rows' = ptRows l ∧ ptMid l) ∧ (∃ xs, rows = rowsOfBytes xs ∧ xs.length ≤ 1048576) ∧ phS (ptsOf rows') ⟨f, t, p, h, i, a, m, u, bytesOfRows rows⟩ n = false,
      .tup [.l 2 (ptRows (phF (ptsOf rows') ⟨f, t, p, h, i, a, m, u, bytesOfRows rows⟩ n)), .agg [.v (.int .i64 (phP (ptsOf rows') ⟨f, t, p, h, i, a, m, u, bytesOfRows rows⟩ n).f), .v (.int .i64 (phP (ptsOf rows') ⟨f, t, p, h, i, a, m, u, bytesOfRows rows⟩ n).t), .v (.int .i64 (phP (ptsOf rows') ⟨f, t, p, h, i, a, m, u, bytesOfRows rows⟩ n).p), .v (.int .i64 (phP (ptsOf rows') ⟨f, t, p, h, i, a, m, u, bytesOfRows rows⟩ n).h), .v (.int .i64 (phP (ptsOf rows') ⟨f, t, p, h, i, a, m, u, bytesOfRows rows⟩ n).i), .v (.int .i64 (phP (ptsOf rows') ⟨f, t, p, h, i, a, m, u, bytesOfRows rows⟩ n).a), .v (.bool (phP (ptsOf rows') ⟨f, t, p, h, i, a, m, u, bytesOfRows rows⟩ n).m), .v (.bool (phP (ptsOf rows') ⟨f, t, p, h, i, a, m, u, bytesOfRows rows⟩ n).u), .l 1 (rowsOfBytes (phP (ptsOf rows') ⟨f, t, p, h, i, a, m, u, bytesOfRows rows⟩ n).d)], .v (.bool (phB (ptsOf rows') ⟨f, t, p, h, i, a, m, u, bytesOfRows rows⟩ n))], [])
  | _ => none
theorem implPartsHearO_ok : OwnOk Try.prog 13 (ocOf g_hearO) := by
  refine implPartsHear_ok.toOwn.toData.narrow fun args B0 c r B1 bs hg hc => ?_
  unfold ocOf g_hearO at hg
  split at hg
  · split at hg
    · rename_i c' r' bs' hg'
      cases hg
      split at hg'
      · rename_i sz' rows' f t p h i a m u sz rows n
        cases hg'
        obtain ⟨h1, h2, h3⟩ := hc
        refine ⟨(∃ l, rows' = ptRows l ∧ ptMid l) ∧ (∃ xs, rows = rowsOfBytes xs ∧ xs.length ≤ 1048576), ?_, h1, h2⟩
        simp only [ocOf, dataOf, g_partsHear, h3]
        rfl
      · cases hg'
    · cases hg
  · cases hg
def kda : List (FuncId × Abs) := [(31, ownAbs g_open), (33, ownAbs g_pick), (34, ownAbs g_bytes), (32, ownAbs g_net)]
theorem kda_ok : ∀ p ∈ kda, CallOk Try.prog p.1 p.2 := by
  intro p hp
  simp only [kda, List.mem_cons, List.not_mem_nil, or_false] at hp
  rcases hp with rfl | rfl | rfl | rfl
  · exact open_ok.call
  · exact pick_ok.call
  · exact bytes_ok.call
  · exact l20Net_ok.call
set_option maxHeartbeats 8000000 in
set_option maxRecDepth 100000 in
theorem drawArrives_ok : OwnOk Try.prog 8 (ocOf g_drawAr) := by
  refine OwnOk.of_vcD (G := kda) kda_ok mixed Try.func8 (by kernel_rfl) rfl ?_
  intro args cnd r bs hg hc
  unfold g_drawAr at hg
  split at hg
  · rename_i sz rows
    cases hg
    obtain ⟨xs, rfl⟩ := hc
    rw [bytesOf_rows]
    refine ⟨⟨rfl, by simp [AV.ids, AV.ids.idsL]⟩, [.l 1 (rowsOfBytes xs)], rfl, fun w Z s vs h => CvL.ok (.cons (.l _ _ _ (rowsOf_w xs)) .nil) h, ?_⟩
    obtain ⟨ys, hys⟩ : ∃ ys, ys = List.take 2000 xs := ⟨_, rfl⟩
    rw [← hys]
    have hyl : ys.length ≤ 2000 := by rw [hys, List.length_take]; omega
    have hx : (∃ zs, rowsOfBytes ys = rowsOfBytes zs ∧ zs.length ≤ 2000) = True := eq_true ⟨_, rfl, hyl⟩
    have hnb := netV_bd ys 0 0 (by omega)
    have hqb := netQ_bd ys 0 0 (by omega)
    obtain ⟨L, hL⟩ : ∃ L, L = netV ys 0 0 := ⟨_, rfl⟩
    have hL' := hL.symm
    obtain ⟨Q, hQ⟩ : ∃ Q, Q = netQ ys 0 0 := ⟨_, rfl⟩
    have hQ' := hQ.symm
    rw [hL'] at hnb
    rw [hQ'] at hqb
    have e1 : daN ys = L := hL'
    have e2 : daQ ys = Q := hQ'
    have e3 : daI ys = pickV ys Q (L.length : Int) := by rw [daI, e1, e2]
    have e4 : daT ys = 10 + pickV ys (Q + 1) (L.length : Int) := by rw [daT, e1, e2]
    have e5 : daD ys = bytesV ys (Q + 1 + 1 + 1) (1 + pickV ys (Q + 1 + 1) 20).toNat := by rw [daD, e2]
    rw [e1, e3, e4, e5]
    have a1 := pickV_nonneg ys (Q + 1) (L.length : Int) (by omega)
    have a2 := pickV_lt ys (Q + 1) (L.length : Int) (by omega)
    have a3 := pickV_nonneg ys (Q + 1 + 1) 20 (by omega)
    have a4 := pickV_lt ys (Q + 1 + 1) 20 (by omega)
    have w1 : IntKind.i64.wrap (10 + pickV ys (Q + 1) (L.length : Int)) = 10 + pickV ys (Q + 1) (L.length : Int) := wrap_id (by omega) (by omega)
    have w2 : IntKind.i64.wrap (1 + pickV ys (Q + 1 + 1) 20) = 1 + pickV ys (Q + 1 + 1) 20 := wrap_id (by omega) (by omega)
    simp (maxSteps := 3000000) only [Try.f8, kda, g_open, g_pick, g_bytes, g_net, bytesOf_rows, rowsOf_len, stRows_len, ← hys, hx, hL', hQ', w1, w2, D.toI, D.toL, ↓reduceIte, Bool.false_eq_true, tYs, evL, implies_true, oMin, oCopy, oBin, oUn, oLoadKid, oStoreTree, oField, oExtract, oNil, oSliceQ, oLen, nodupB, treeOf, kidAbs, kidRows, TK.isCell, D.toL, oLoad, oStore, oMake, oIndexAddr, ↓reduceIte, reduceCtorEq, Nat.reduceBEq, Nat.reduceAdd, Nat.reduceMul, Nat.reduceLT, Nat.reduceSub, Nat.reduceLeDiff, Nat.reduceEqDiff, Nat.reduceBneDiff, Int.reduceToNat, decide_eq_true_eq, decide_eq_false_iff_not, beq_iff_eq, Int.toNat_natCast, doneD_ret, doneD_normal]
    clear w1 w2 hL' hQ'
    exact ⟨⟨_, rfl⟩, ⟨by omega, by omega, by omega, by omega⟩, ⟨by omega, by omega⟩, ⟨by omega, by omega⟩, ⟨by omega, by omega⟩, ⟨by omega, by omega, by omega, by omega⟩, _, rfl, rfl⟩
  · cases hg
def arCell (k : Nat) (rows : List (List D)) : AV := if k = 0 then .own 1 else .l 2 rows
def arBlk (k : Nat) : HP := if k = 0 then [(1, .sl 57 2 [])] else []
theorem trV_len (net : List St) (n : Int) (p : Pk) : (trV net n p).arr.length ≤ 12288 := by
  cases hb : trB net n p with
  | false => rw [(tr_no hb).1]; decide
  | true =>
    have hok : p.ok = true := by rw [trB, Bool.and_eq_true] at hb; exact hb.2
    rw [(tr_yes hb).1]
    have h1 := tr_len net (trS n.toNat p) (tvT net (trS n.toNat p))
    have h2 := tr_bd net n.toNat hok
    have e1 : (trS n.toNat p).arr.length = 0 := rfl
    omega
theorem order_mid {C : List Pk} (hC : C.length ≤ 12288) (h : wholeB C 15 = true) (k : Nat) : ptMid (orderP C k) := by
  rw [orderP]
  split
  · exact ⟨by decide, fun x hx => (by cases hx)⟩
  · refine ⟨by simp, fun x hx => ?_⟩
    rw [List.mem_singleton.1 hx]
    have hs := sel_sub C fun j => decide (j < k)
    refine ⟨?_, fun y hy => ?_⟩
    · have h1 : (selN C k).length ≤ C.length := hs.length_le
      show (selN C k).length ≤ 1048576
      omega
    · have := ok_rng ((partC h).1 y (hs.subset hy))
      omega
def lar : List (FuncId × Abs) := [(12, pureAbs g_alive), (14, pureAbs g_sameBytes), (10, pureAbs g_pathRoom), (11, pureAbs g_pathRoom), (9, ownAbs (ocOf g_travelD)), (13, frzAbs g_hearO), (8, ownAbs (ocOf g_drawAr))]
theorem lar_ok : ∀ p ∈ lar, CallOk Try.prog p.1 p.2 := by
  intro p hp
  simp only [lar, List.mem_cons, List.not_mem_nil, or_false] at hp
  rcases hp with rfl | rfl | rfl | rfl | rfl | rfl | rfl
  · exact alive_ok.call
  · exact sameBytes_ok.call
  · exact implPathRoom_ok.call
  · exact specPathRoom_ok.call
  · exact implTravelD_ok.call
  · exact implPartsHearO_ok.callF
  · exact drawArrives_ok.call
set_option maxHeartbeats 8000000 in
set_option maxRecDepth 100000 in
theorem lawArrives_ok : PureOk Try.prog 3 g_true := by
  refine PureOk.of_vc (G := lar) lar_ok mixed Try.func3 (by kernel_rfl) rfl ?_
  intro args cnd r bs hg hc
  unfold g_true at hg
  split at hg
  · rename_i sz rows
    cases hg
    obtain ⟨xs, rfl⟩ := hc
    refine ⟨⟨rfl, by simp, by simp [AV.ids, AV.ids.idsL]⟩, [.l 1 (rowsOfBytes xs)], rfl, fun w vs h => CvL.ok (.cons (.l _ _ _ (rowsOf_w xs)) .nil) h, ?_⟩
    obtain ⟨ys, hys⟩ : ∃ ys, ys = List.take 2000 xs := ⟨_, rfl⟩
    by_cases h20 : (xs.length : Int) > 1048576
    · have e20 : ((xs.length : Int) > 1048576) = True := eq_true h20
      simp (maxSteps := 3000000) only [Try.f3, lar, e20, g_alive, g_sameBytes, g_pathRoom, ocOf, g_travelD, g_hearO, g_drawAr, bytesOf_rows, rowsOf_len, stsOf_rows, rtsOf_rows, stRows_len, rtRows_len, ↓reduceIte, Bool.false_eq_true, D.toI, D.toL, tYs, evL, implies_true, oMin, oCopy, oBin, oUn, oLoadKid, oStoreTree, oField, oExtract, oNil, oSliceQ, oLen, nodupB, treeOf, kidAbs, kidRows, TK.isCell, D.toL, oLoad, oStore, oMake, oIndexAddr, ↓reduceIte, reduceCtorEq, Nat.reduceBEq, Nat.reduceAdd, Nat.reduceMul, Nat.reduceLT, Nat.reduceSub, Nat.reduceLeDiff, Nat.reduceEqDiff, Nat.reduceBneDiff, Int.reduceToNat, decide_eq_true_eq, decide_eq_false_iff_not, beq_iff_eq, Int.toNat_natCast, loopK_normal, loopK_exit, loopK_ret, bne_self_eq_false]
      exact ⟨_, [], rfl, ⟨⟨⟨rfl, rfl, rfl⟩, trivial⟩, trivial, by simp [rn, hpAt]⟩⟩
    have e20 : ((xs.length : Int) > 1048576) = False := eq_false h20
    have hnb := netV_bd ys 0 0 (by omega)
    have hqb : 0 ≤ daQ ys ∧ daQ ys ≤ 0 + 112 := netQ_bd ys 0 0 (by omega)
    have hi0 := pickV_nonneg ys (daQ ys) ((netV ys 0 0).length : Int) (by omega)
    have hi1 := pickV_lt ys (daQ ys) ((netV ys 0 0).length : Int) (by omega)
    have ht0 := pickV_nonneg ys (daQ ys + 1) ((netV ys 0 0).length : Int) (by omega)
    have ht1 := pickV_lt ys (daQ ys + 1) ((netV ys 0 0).length : Int) (by omega)
    have hd0 := pickV_nonneg ys (daQ ys + 1 + 1) 20 (by omega)
    have hd1 := pickV_lt ys (daQ ys + 1 + 1) 20 (by omega)
    have hdl : (daD ys).length = (1 + pickV ys (daQ ys + 1 + 1) 20).toNat := bytesV_len _ _ _
    obtain ⟨X, hX⟩ : ∃ X, X = daD ys := ⟨_, rfl⟩
    have hX' := hX.symm
    rw [hX'] at hdl
    have hXl : X.length ≤ 20 := by omega
    obtain ⟨T, hT⟩ : ∃ T, T = daT ys := ⟨_, rfl⟩
    have hT' := hT.symm
    have hTb : 10 ≤ T ∧ T ≤ 16 := by rw [hT, daT, daN]; omega
    obtain ⟨I, hI⟩ : ∃ I, I = daI ys := ⟨_, rfl⟩
    have hI' := hI.symm
    have hIb : 0 ≤ I ∧ I < ((netV ys 0 0).length : Int) := by rw [hI, daI, daN]; exact ⟨hi0, hi1⟩
    obtain ⟨N, hN⟩ : ∃ N, N = daN ys := ⟨_, rfl⟩
    have hN' := hN.symm
    rw [show netV ys 0 0 = N from hN'] at hnb hIb
    have hmid : sMid N := ⟨by omega, fun x hx => by have := hnb.2 x hx; omega⟩
    clear hN hI hT hX hi0 hi1 ht0 ht1 hd0 hd1 hqb hdl
    obtain ⟨p, hp⟩ : ∃ p : Pk, p = ⟨1, T, 2, 64, 5, 0, false, false, X⟩ := ⟨_, rfl⟩
    have hpok : p.ok = true := by
      rw [hp, Pk.ok, pkB, Bool.and_eq_true]
      refine ⟨?_, rfl⟩
      rw [pkR, decide_eq_true_eq]
      dsimp only
      omega
    have hnb2 := trV_len N I p
    obtain ⟨M, hM⟩ : ∃ M, M = rmV N I T := ⟨_, rfl⟩
    have hM' := hM.symm
    obtain ⟨D, hD⟩ : ∃ D, D = trV N I p := ⟨_, rfl⟩
    have hA' : trV N I ⟨1, T, 2, 64, 5, 0, false, false, X⟩ = D := by rw [← hp]; exact hD.symm
    have hgone : M = 0 → D.arr = [] := fun h0 => by
      rw [hD]
      cases hb : trB N I p with
      | false => rw [(tr_no hb).1]
      | true =>
        rw [(tr_yes hb).1]
        rw [trB, Bool.and_eq_true] at hb
        obtain ⟨n1, n2, n3, n4⟩ := inNet_of hb.1
        have hrb : rmB N I T = true := by rw [rmB, hb.1, inZ, decide_eq_true (by omega)]; rfl
        have hr : roomV N I.toNat T = 0 := by rw [rmV, if_pos hrb] at hM; rw [← hM]; exact h0
        exact way_no (room_no n1 (by omega) hr) (by rw [hp])
    have hcome : ¬ M = 0 → wholeB D.arr 15 = true ∧ joinD D.arr = X := fun h0 => by
      have hrb : rmB N I T = true := by
        cases h : rmB N I T with
        | true => rfl
        | false => exact absurd (by rw [hM, rmV, if_neg (by rw [h]; decide)]) h0
      have hin : inNet N I = true := by rw [rmB, Bool.and_eq_true] at hrb; exact hrb.1
      obtain ⟨n1, n2, n3, n4⟩ := inNet_of hin
      have hr : roomV N I.toNat p.t ≠ 0 := by rw [hp]; rw [rmV, if_pos hrb] at hM; rw [← hM]; exact h0
      have hb : trB N I p = true := by rw [trB, hin, hpok]; rfl
      rw [hD, (tr_yes hb).1]
      have h := arrives_all n1 (i := I.toNat) (by omega) (p := p) hpok (by rw [hp]) (by rw [hp]) (by rw [hp]) (by rw [hp]) hr (u := 15) (by omega)
      refine ⟨h.1, h.2.trans (by rw [hp])⟩
    obtain ⟨Z, hZ⟩ : ∃ Z, trN N I ⟨1, T, 2, 64, 5, 0, false, false, X⟩ = Z := ⟨_, rfl⟩
    rw [← hD] at hnb2
    clear hM hD
    obtain ⟨R, C, W⟩ := D
    dsimp only at hgone hcome hnb2
    by_cases h0 : M = 0
    · have hC0 : C = [] := hgone h0
      subst hC0
      simp (maxSteps := 3000000) only [Try.f3, lar, e20, ← hys, hN', hI', hT', hX', hA', hM', hZ, pRows_len, ptRows_len, ptsOf_rows, h0, g_alive, g_sameBytes, g_pathRoom, ocOf, g_travelD, g_hearO, g_drawAr, bytesOf_rows, rowsOf_len, stsOf_rows, rtsOf_rows, stRows_len, rtRows_len, ↓reduceIte, Bool.false_eq_true, D.toI, D.toL, tYs, evL, implies_true, oMin, oCopy, oBin, oUn, oLoadKid, oStoreTree, oField, oExtract, oNil, oSliceQ, oLen, nodupB, treeOf, kidAbs, kidRows, TK.isCell, D.toL, oLoad, oStore, oMake, oIndexAddr, ↓reduceIte, reduceCtorEq, Nat.reduceBEq, Nat.reduceAdd, Nat.reduceMul, Nat.reduceLT, Nat.reduceSub, Nat.reduceLeDiff, Nat.reduceEqDiff, Nat.reduceBneDiff, Int.reduceToNat, decide_eq_true_eq, decide_eq_false_iff_not, beq_iff_eq, Int.toNat_natCast, loopK_normal, loopK_exit, loopK_ret, bne_self_eq_false, ↓reduceIte, Bool.not_true, Bool.not_false, beq_self_eq_true]
      refine ⟨⟨xs, rfl⟩, ⟨⟨N, rfl, hmid⟩, X, rfl, by omega⟩, ⟨N, rfl, hmid⟩, ⟨N, rfl, hmid⟩, ?_⟩
      rw [if_pos (show ((0 : Nat) : Int) = 0 from rfl)]
      exact ⟨_, [], rfl, ⟨⟨⟨rfl, rfl, rfl⟩, trivial⟩, trivial, by simp [rn, hpAt]⟩⟩
    · obtain ⟨hw, hj⟩ := hcome h0
      have hpc := partC hw
      have hpos : 0 < C.length := hpc.2.2.2.1
      simp (maxSteps := 3000000) only [Try.f3, lar, e20, ← hys, hN', hI', hT', hX', hA', hM', hZ, pRows_len, ptRows_len, ptsOf_rows, h0, g_alive, g_sameBytes, g_pathRoom, ocOf, g_travelD, g_hearO, g_drawAr, bytesOf_rows, rowsOf_len, stsOf_rows, rtsOf_rows, stRows_len, rtRows_len, ↓reduceIte, Bool.false_eq_true, D.toI, D.toL, tYs, evL, implies_true, oMin, oCopy, oBin, oUn, oLoadKid, oStoreTree, oField, oExtract, oNil, oSliceQ, oLen, nodupB, treeOf, kidAbs, kidRows, TK.isCell, D.toL, oLoad, oStore, oMake, oIndexAddr, ↓reduceIte, reduceCtorEq, Nat.reduceBEq, Nat.reduceAdd, Nat.reduceMul, Nat.reduceLT, Nat.reduceSub, Nat.reduceLeDiff, Nat.reduceEqDiff, Nat.reduceBneDiff, Int.reduceToNat, decide_eq_true_eq, decide_eq_false_iff_not, beq_iff_eq, Int.toNat_natCast, loopK_normal, loopK_exit, loopK_ret, bne_self_eq_false, ↓reduceIte, Bool.not_true, Bool.not_false, beq_self_eq_true]
      refine ⟨⟨xs, rfl⟩, ⟨⟨N, rfl, hmid⟩, X, rfl, by omega⟩, ⟨N, rfl, hmid⟩, ⟨N, rfl, hmid⟩, ?_⟩
      refine e_loop _ _ _ _ _ _ _ _ (fun k : Nat => [.any, .any, .any, .any, .any, .any, .l 1 (rowsOfBytes X), .ptr 0 0, .any, (arCell k (ptRows (orderP C k))), .v (.int .i64 (k : Int))] ++ List.replicate (Try.f3.ntmps - 11) .any) (fun k => ([(0, .var 28 [.l 9 (pRows C), .l 9 (pRows W), .v (.int .i64 (Z : Int))])] ++ arBlk k)) (fun k => k < C.length) (fun k => C.length - k) 2 (fun k => by by_cases h : k = 0 <;> simp [arBlk, h]) ?_ fun k hk' => ?_
      · exact ⟨0, [(0, some _), (1, some _)], hpos, ⟨⟨trivial, trivial, trivial, trivial, trivial, trivial, ⟨rfl, rfl, rfl⟩, ⟨rfl, rfl, rfl⟩, trivial, ⟨rfl, rfl, rfl⟩, ⟨rfl, rfl, rfl⟩, fitT_rep _ _ rfl⟩, ⟨.inl rfl, rfl, rfl, rfl, .inl rfl, rfl, rfl, rfl, trivial⟩, by simp [rn, hpAt, arBlk]⟩, by simp [keepIds, arBlk]⟩
      have hk : k < C.length := hk'
      have w2 : IntKind.i64.wrap ((k : Int) + 1) = ((k + 1 : Nat) : Int) := wrap_id (by omega) (by omega)
      have wl : IntKind.i64.wrap ((C.length : Int) - 1) = ((C.length - 1 : Nat) : Int) := by rw [wrap_id] <;> omega
      have hlt : ((k : Int) < (C.length : Int)) = True := eq_true (by omega)
      have hge : (0 ≤ (k : Int)) = True := eq_true (by omega)
      have hrow := pRows_get C k hk
      have hE : (⟨C[k].f, C[k].t, C[k].p, C[k].h, C[k].i, C[k].a, C[k].m, C[k].u, C[k].d⟩ : Pk) = C[k] := rfl
      have hid := (ok_rng (hpc.1 _ (List.getElem_mem hk))).2
      have hkm := order_mid hnb2 hw k
      have m0 : ptMid [] := ⟨by decide, fun x hx => (by cases hx)⟩
      have hcase : (k + 1 < C.length ∧ phF (orderP C k) C[k] 0 = orderP C (k + 1) ∧ phB (orderP C k) C[k] 0 = false ∧ phS (orderP C k) C[k] 0 = false) ∨ (k = C.length - 1 ∧ phF (orderP C k) C[k] 0 = [] ∧ phB (orderP C k) C[k] 0 = true ∧ phS (orderP C k) C[k] 0 = false ∧ (phP (orderP C k) C[k] 0).d = X) := by
        by_cases hl : k + 1 < C.length
        · exact .inl ⟨hl, order_step hw hl⟩
        · right
          obtain rfl : k = C.length - 1 := by omega
          obtain ⟨a, b, c, d⟩ := order_last hw hpos
          exact ⟨rfl, a, b, c, by rw [← hj]; exact d⟩
      obtain ⟨L, hL⟩ : ∃ L, orderP C k = L := ⟨_, rfl⟩
      rw [hL] at hcase hkm
      have hL0 : k = 0 → L = [] := fun h => by rw [← hL, orderP, if_pos h]
      rw [hL]
      obtain ⟨V, hV⟩ : ∃ V, phP L C[k] 0 = V := ⟨_, rfl⟩
      rcases hcase with ⟨hl, a, b, c⟩ | ⟨hl, a, b, c, d⟩
      · by_cases hk0 : k = 0
        · have hsc : arCell k (ptRows L) = .own 1 := if_pos hk0
          have hsb : arBlk k = [(1, .sl 57 2 [])] := if_pos hk0
          rw [hsc, hsb]
          have hnil : ptsOf [] = L := (hL0 hk0).symm
          simp (maxSteps := 3000000) only [Try.f3, lar, e20, ← hys, hN', hI', hT', hX', hA', hM', hZ, pRows_len, ptRows_len, ptsOf_rows, hlt, hge, hrow, hE, hnil, a, b, c, hV, w2, wl, D.toI, dB, D.toB, D.toL, pRow, List.cons_append, List.nil_append, g_alive, g_sameBytes, g_pathRoom, ocOf, g_travelD, g_hearO, g_drawAr, bytesOf_rows, rowsOf_len, stsOf_rows, rtsOf_rows, stRows_len, rtRows_len, ↓reduceIte, Bool.false_eq_true, D.toI, D.toL, tYs, evL, implies_true, oMin, oCopy, oBin, oUn, oLoadKid, oStoreTree, oField, oExtract, oNil, oSliceQ, oLen, nodupB, treeOf, kidAbs, kidRows, TK.isCell, D.toL, oLoad, oStore, oMake, oIndexAddr, ↓reduceIte, reduceCtorEq, Nat.reduceBEq, Nat.reduceAdd, Nat.reduceMul, Nat.reduceLT, Nat.reduceSub, Nat.reduceLeDiff, Nat.reduceEqDiff, Nat.reduceBneDiff, Int.reduceToNat, decide_eq_true_eq, decide_eq_false_iff_not, beq_iff_eq, Int.toNat_natCast, loopK_normal, loopK_exit, loopK_ret, bne_self_eq_false, ↓reduceIte, Bool.not_true, Bool.not_false, beq_self_eq_true]
          refine ⟨⟨⟨[], rfl, m0⟩, _, rfl, by omega⟩, ?_⟩
          exact ⟨k + 1, [(0, some 0)], by omega, by omega, ⟨⟨trivial, trivial, trivial, trivial, trivial, trivial, ⟨rfl, rfl, rfl⟩, ⟨rfl, rfl, rfl⟩, trivial, ⟨rfl, rfl, rfl⟩, ⟨rfl, rfl, rfl⟩, fitT_rep _ _ rfl⟩, ⟨.inl rfl, rfl, rfl, rfl, trivial⟩, by simp [rn, hpAt, arBlk]⟩, by simp [keepIds, arBlk]⟩
        · have hsc : arCell k (ptRows L) = .l 2 (ptRows L) := if_neg hk0
          have hsb : arBlk k = [] := if_neg hk0
          rw [hsc, hsb]
          simp (maxSteps := 3000000) only [Try.f3, lar, e20, ← hys, hN', hI', hT', hX', hA', hM', hZ, pRows_len, ptRows_len, ptsOf_rows, hlt, hge, hrow, hE, a, b, c, hV, w2, wl, D.toI, dB, D.toB, D.toL, pRow, List.cons_append, List.nil_append, List.append_nil, g_alive, g_sameBytes, g_pathRoom, ocOf, g_travelD, g_hearO, g_drawAr, bytesOf_rows, rowsOf_len, stsOf_rows, rtsOf_rows, stRows_len, rtRows_len, ↓reduceIte, Bool.false_eq_true, D.toI, D.toL, tYs, evL, implies_true, oMin, oCopy, oBin, oUn, oLoadKid, oStoreTree, oField, oExtract, oNil, oSliceQ, oLen, nodupB, treeOf, kidAbs, kidRows, TK.isCell, D.toL, oLoad, oStore, oMake, oIndexAddr, ↓reduceIte, reduceCtorEq, Nat.reduceBEq, Nat.reduceAdd, Nat.reduceMul, Nat.reduceLT, Nat.reduceSub, Nat.reduceLeDiff, Nat.reduceEqDiff, Nat.reduceBneDiff, Int.reduceToNat, decide_eq_true_eq, decide_eq_false_iff_not, beq_iff_eq, Int.toNat_natCast, loopK_normal, loopK_exit, loopK_ret, bne_self_eq_false, ↓reduceIte, Bool.not_true, Bool.not_false, beq_self_eq_true]
          refine ⟨⟨⟨L, rfl, hkm⟩, _, rfl, by omega⟩, ?_⟩
          exact ⟨k + 1, [(0, some 0)], by omega, by omega, ⟨⟨trivial, trivial, trivial, trivial, trivial, trivial, ⟨rfl, rfl, rfl⟩, ⟨rfl, rfl, rfl⟩, trivial, ⟨rfl, rfl, rfl⟩, ⟨rfl, rfl, rfl⟩, fitT_rep _ _ rfl⟩, ⟨.inl rfl, rfl, rfl, rfl, trivial⟩, by simp [rn, hpAt, arBlk]⟩, by simp [keepIds, arBlk]⟩
      · rw [hV] at d
        have hkk : ((k : Int) = ((C.length - 1 : Nat) : Int)) = True := eq_true (by omega)
        have hkk2 : ((k : Int) == ((C.length - 1 : Nat) : Int)) = true := beq_iff_eq.2 (by omega)
        have hz0 : (((0 : Nat) : Int) == 0) = true := rfl
        by_cases hk0 : k = 0
        · have hsc : arCell k (ptRows L) = .own 1 := if_pos hk0
          have hsb : arBlk k = [(1, .sl 57 2 [])] := if_pos hk0
          rw [hsc, hsb]
          have hnil : ptsOf [] = L := (hL0 hk0).symm
          simp (maxSteps := 3000000) only [Try.f3, lar, e20, ← hys, hN', hI', hT', hX', hA', hM', hZ, pRows_len, ptRows_len, ptsOf_rows, hlt, hge, hrow, hE, hnil, a, b, c, hV, d, hkk, hkk2, hz0, w2, wl, D.toI, dB, D.toB, D.toL, pRow, List.cons_append, List.nil_append, g_alive, g_sameBytes, g_pathRoom, ocOf, g_travelD, g_hearO, g_drawAr, bytesOf_rows, rowsOf_len, stsOf_rows, rtsOf_rows, stRows_len, rtRows_len, ↓reduceIte, Bool.false_eq_true, D.toI, D.toL, tYs, evL, implies_true, oMin, oCopy, oBin, oUn, oLoadKid, oStoreTree, oField, oExtract, oNil, oSliceQ, oLen, nodupB, treeOf, kidAbs, kidRows, TK.isCell, D.toL, oLoad, oStore, oMake, oIndexAddr, ↓reduceIte, reduceCtorEq, Nat.reduceBEq, Nat.reduceAdd, Nat.reduceMul, Nat.reduceLT, Nat.reduceSub, Nat.reduceLeDiff, Nat.reduceEqDiff, Nat.reduceBneDiff, Int.reduceToNat, decide_eq_true_eq, decide_eq_false_iff_not, beq_iff_eq, Int.toNat_natCast, loopK_normal, loopK_exit, loopK_ret, bne_self_eq_false, ↓reduceIte, Bool.not_true, Bool.not_false, beq_self_eq_true]
          refine ⟨⟨⟨[], rfl, m0⟩, _, rfl, by omega⟩, ⟨_, rfl⟩, ?_⟩
          exact ⟨_, [], rfl, ⟨⟨⟨rfl, rfl, rfl⟩, trivial⟩, trivial, by simp [rn, hpAt]⟩⟩
        · have hsc : arCell k (ptRows L) = .l 2 (ptRows L) := if_neg hk0
          have hsb : arBlk k = [] := if_neg hk0
          rw [hsc, hsb]
          simp (maxSteps := 3000000) only [Try.f3, lar, e20, ← hys, hN', hI', hT', hX', hA', hM', hZ, pRows_len, ptRows_len, ptsOf_rows, hlt, hge, hrow, hE, a, b, c, hV, d, hkk, hkk2, hz0, w2, wl, D.toI, dB, D.toB, D.toL, pRow, List.cons_append, List.nil_append, List.append_nil, g_alive, g_sameBytes, g_pathRoom, ocOf, g_travelD, g_hearO, g_drawAr, bytesOf_rows, rowsOf_len, stsOf_rows, rtsOf_rows, stRows_len, rtRows_len, ↓reduceIte, Bool.false_eq_true, D.toI, D.toL, tYs, evL, implies_true, oMin, oCopy, oBin, oUn, oLoadKid, oStoreTree, oField, oExtract, oNil, oSliceQ, oLen, nodupB, treeOf, kidAbs, kidRows, TK.isCell, D.toL, oLoad, oStore, oMake, oIndexAddr, ↓reduceIte, reduceCtorEq, Nat.reduceBEq, Nat.reduceAdd, Nat.reduceMul, Nat.reduceLT, Nat.reduceSub, Nat.reduceLeDiff, Nat.reduceEqDiff, Nat.reduceBneDiff, Int.reduceToNat, decide_eq_true_eq, decide_eq_false_iff_not, beq_iff_eq, Int.toNat_natCast, loopK_normal, loopK_exit, loopK_ret, bne_self_eq_false, ↓reduceIte, Bool.not_true, Bool.not_false, beq_self_eq_true]
          refine ⟨⟨⟨L, rfl, hkm⟩, _, rfl, by omega⟩, ⟨_, rfl⟩, ?_⟩
          exact ⟨_, [], rfl, ⟨⟨⟨rfl, rfl, rfl⟩, trivial⟩, trivial, by simp [rn, hpAt]⟩⟩
  · cases hg
theorem walk_Arrives (A : Option Addr) (n c : Nat) (xs : List UInt8) (w : World) (h : Rd w w.heap.size A n (bv xs)) (hc : n ≤ c) :
    Calls Try.prog 3 #[.slice A n c] w fun e w' => e = .returned (.bool true) ∧ Below w.heap.size w w' :=
  lawArrives_ok.walk (vs := [_]) (arel_cons (.l _ _ _ (rep_of_rd h hc)) arel_nil) rfl ⟨xs, rfl⟩
end Go.Proofs.Ytmhmhgegdagjkaa
