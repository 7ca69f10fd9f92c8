import Derived.Test.YthbcoakimbpkgaaKi
import Derived.Test.YthbcoakimbpkgaaKl
import Derived.Test.YthbcoakimbpkgaaVi
import Derived.Test.YthbcoakimbpkgaaHa
set_option linter.unusedVariables false
set_option linter.unusedSimpArgs false
namespace Go.Proofs.Ythbcoakimbpkgaa
open Go.RowKit
set_option linter.unusedSimpArgs false
def bRows (l : List Bool) : List (List D) := l.map fun b => [D.v (.bool b)]
theorem bRows_len (l : List Bool) : (bRows l).length = l.length := by simp [bRows]
theorem bRows_get (l : List Bool) (k : Nat) (h : k < l.length) : (bRows l).getD k [] = [D.v (.bool (l.getD k false))] := by
  unfold bRows
  rw [List.getD_eq_getElem?_getD, List.getElem?_map, List.getElem?_eq_getElem h]; simp [List.getD, h]
theorem bRows_set (l : List Bool) (k : Nat) (b : Bool) : (bRows l).set k [D.v (.bool b)] = bRows (l.set k b) := by simp [bRows]
theorem bRows_zero (n : Nat) : bRows (List.replicate n false) = List.replicate n [D.v (.bool false)] := by simp [bRows]
def ltv : List (FuncId × Abs) := [(18, pureAbs g_alive), (33, pureAbs g_samePackets), (31, ownAbs (ocOf g_travelD)), (32, ownAbs (ocOf g_travelD)), (30, ownAbs (ocOf g_drawTv))]
theorem ltv_ok : ∀ p ∈ ltv, CallOk Try.prog p.1 p.2 := by
  intro p hp
  simp only [ltv, List.mem_cons, List.not_mem_nil, or_false] at hp
  rcases hp with rfl | rfl | rfl | rfl | rfl
  · exact alive_ok.call
  · exact samePackets_ok.call
  · exact implTravelD_ok.call
  · exact specTravel_ok.call
  · exact drawTravel_ok.call
set_option maxHeartbeats 8000000 in
set_option maxRecDepth 100000 in
theorem lawTravel_ok : PureOk Try.prog 6 g_true := by
  refine PureOk.of_vc (G := ltv) ltv_ok mixed Try.func6 (by kernel_rfl) rfl ?_
  intro args cnd r bs hg hc
  unfold g_true at hg
  split at hg
  · rename_i sz rows
    cases hg
    obtain ⟨xs, rfl⟩ := hc
    refine ⟨⟨rfl, by simp, by simp [AV.ids, AV.ids.idsL]⟩, [.l 1 (rowsOfBytes xs)], rfl, fun w vs h => CvL.ok (.cons (.l _ _ _ (rowsOf_w xs)) .nil) h, ?_⟩
    obtain ⟨ys, hys⟩ : ∃ ys, ys = List.take 2000 xs := ⟨_, rfl⟩
    by_cases h20 : (xs.length : Int) > 1048576
    · have e20 : ((xs.length : Int) > 1048576) = True := eq_true h20
      simp (maxSteps := 3000000) only [Try.f6, ltv, e20, g_alive, g_samePackets, ocOf, g_travelD, g_drawTv, bytesOf_rows, rowsOf_len, stsOf_rows, rtsOf_rows, stRows_len, rtRows_len, ↓reduceIte, Bool.false_eq_true, D.toI, D.toL, tYs, evL, implies_true, oMin, oCopy, oBin, oUn, oLoadKid, oStoreTree, oField, oExtract, oNil, oSliceQ, oLen, nodupB, treeOf, kidAbs, kidRows, TK.isCell, D.toL, oLoad, oStore, oMake, oIndexAddr, ↓reduceIte, reduceCtorEq, Nat.reduceBEq, Nat.reduceAdd, Nat.reduceMul, Nat.reduceLT, Nat.reduceSub, Nat.reduceLeDiff, Nat.reduceEqDiff, Nat.reduceBneDiff, Int.reduceToNat, decide_eq_true_eq, decide_eq_false_iff_not, beq_iff_eq, Int.toNat_natCast, loopK_normal, loopK_exit, loopK_ret, bne_self_eq_false]
      exact ⟨_, [], rfl, ⟨⟨⟨rfl, rfl, rfl⟩, trivial⟩, trivial, by simp [rn, hpAt]⟩⟩
    have e20 : ((xs.length : Int) > 1048576) = False := eq_false h20
    have hnb := netV_bd ys 0 20 (by omega)
    have hqb := netQ_bd ys 0 20 (by omega)
    have hVb : (dtP ys).d.length ≤ 60 := by
      have hq : dtQ ys + 1 + 1 < 100000000000 := by have : netQ ys 0 20 + 1 + 1 < 100000000000 := by omega
                                                    exact this
      exact (sentV_q ys (dtQ ys + 1 + 1) hq).2.2
    obtain ⟨L, hL⟩ : ∃ L, L = dtN ys := ⟨_, rfl⟩
    have hL' := hL.symm
    rw [show netV ys 0 20 = L from hL'] at hnb
    have hmid : sMid L := ⟨by omega, fun x hx => by have := hnb.2 x hx; omega⟩
    obtain ⟨F, hF⟩ : ∃ F, F = dtF ys := ⟨_, rfl⟩
    have hF' := hF.symm
    obtain ⟨V, hV⟩ : ∃ V, V = dtP ys := ⟨_, rfl⟩
    have hV' := hV.symm
    rw [hV'] at hVb
    clear hV hL hF
    obtain ⟨x, hx⟩ : ∃ x : Pk, x = ⟨V.f, V.t, V.pr, V.h, V.i, V.a, V.m, V.u, V.d⟩ := ⟨_, rfl⟩
    have hkc : (0 < (trV L F x).arr.length → x.ok = true) ∧ Kept x (trV L F x).arr ∧ (trV L F x).arr.length ≤ 12288 ∧ (trV L F x).nts.length ≤ 12288 := by
      cases hb : trB L F x with
      | false => rw [(tr_no hb).1]; exact ⟨fun h => absurd h (by decide), ⟨fun q h => (by cases h), List.Pairwise.nil⟩, by decide, by decide⟩
      | true =>
        have hok : x.ok = true := by rw [trB, Bool.and_eq_true] at hb; exact hb.2
        rw [(tr_yes hb).1]
        have h1 := tr_len L (trS F.toNat x) (tvT L (trS F.toNat x))
        have h2 := tr_bd L F.toNat hok
        have e1 : (trS F.toNat x).arr.length = 0 := rfl
        have e2 : (trS F.toNat x).nts.length = 0 := rfl
        exact ⟨fun _ => hok, tv_kept L F.toNat x, by omega, by omega⟩
    obtain ⟨D, hD⟩ : ∃ D, D = trV L F x := ⟨_, rfl⟩
    obtain ⟨N, hN⟩ : ∃ N, N = trN L F x := ⟨_, rfl⟩
    rw [← hD] at hkc
    have hD' : trV L F ⟨V.f, V.t, V.pr, V.h, V.i, V.a, V.m, V.u, V.d⟩ = D := by rw [← hx]; exact hD.symm
    have hN' : trN L F ⟨V.f, V.t, V.pr, V.h, V.i, V.a, V.m, V.u, V.d⟩ = N := by rw [← hx]; exact hN.symm
    clear hD hN
    obtain ⟨R, C, T⟩ := D
    dsimp only at hkc
    obtain ⟨hok, hkt, hC1, hT1⟩ := hkc
    have hpart : ∀ k (hk : k < C.length), (C[k].t = V.t ∧ C[k].h ≤ V.h) ∧ ((0 ≤ V.a ∧ V.a ≤ 255) ∧ V.d.length ≤ 48) ∧ V.a ≤ C[k].a ∧ C[k].a + (C[k].d.length : Int) ≤ V.a + (V.d.length : Int) := fun k hk => by
      have h1 := ok_rng (hok (by omega))
      have h2 := hkt.1 _ (List.getElem_mem hk)
      have h3 := h2.ends
      rw [hx] at h1 h2 h3
      exact ⟨⟨h2.1, h2.2.1⟩, h1, h3.1, h3.2⟩
    have hcz : ∀ y ∈ C, 0 ≤ y.a := fun y hy => by
      obtain ⟨k, hk, rfl⟩ := List.mem_iff_getElem.1 hy
      have := hpart k hk
      omega
    have hz0 : List.replicate 400 [D.v (.bool false)] = bRows (cover C 0 0) := by rw [cover_zero C hcz, bRows_zero]
    simp (maxSteps := 3000000) only [Try.f6, ltv, e20, ← hys, hL', hF', hV', hD', hN', pRows_len, bRows_len, cover_len, hz0, g_alive, g_samePackets, ocOf, g_travelD, g_drawTv, bytesOf_rows, rowsOf_len, stsOf_rows, rtsOf_rows, stRows_len, rtRows_len, ↓reduceIte, Bool.false_eq_true, D.toI, D.toL, tYs, evL, implies_true, oMin, oCopy, oBin, oUn, oLoadKid, oStoreTree, oField, oExtract, oNil, oSliceQ, oLen, nodupB, treeOf, kidAbs, kidRows, TK.isCell, D.toL, oLoad, oStore, oMake, oIndexAddr, ↓reduceIte, reduceCtorEq, Nat.reduceBEq, Nat.reduceAdd, Nat.reduceMul, Nat.reduceLT, Nat.reduceSub, Nat.reduceLeDiff, Nat.reduceEqDiff, Nat.reduceBneDiff, Int.reduceToNat, decide_eq_true_eq, decide_eq_false_iff_not, beq_iff_eq, Int.toNat_natCast, loopK_normal, loopK_exit, loopK_ret, bne_self_eq_false, ↓reduceIte, Bool.not_true, Bool.not_false]
    refine ⟨⟨xs, rfl⟩, ⟨⟨L, rfl, hmid⟩, V.d, rfl, by omega⟩, ⟨⟨L, rfl, hmid⟩, V.d, rfl, by omega⟩, ⟨C, rfl, rfl, by omega⟩, ⟨T, rfl, rfl, by omega⟩, ⟨by decide, by decide, by decide, by decide⟩, ?_⟩
    refine e_loop _ _ _ _ _ _ _ _ (fun k : Nat => [.any, .any, .any, .any, .any, .ptr 0 0, .ptr 1 0, .ptr 2 0, .own 3, .v (.int .i64 (k : Int))] ++ List.replicate (Try.f6.ntmps - 10) .any) (fun k => [(0, .var 31 [.v (.int .i64 V.f), .v (.int .i64 V.t), .v (.int .i64 V.pr), .v (.int .i64 V.h), .v (.int .i64 V.i), .v (.int .i64 V.a), .v (.bool V.m), .v (.bool V.u), .l 1 (rowsOfBytes V.d)]), (1, .var 48 [.l 9 (pRows C), .l 9 (pRows T), .v (.int .i64 (N : Int))]), (2, .var 48 [.l 9 (pRows C), .l 9 (pRows T), .v (.int .i64 (N : Int))]), (3, .sl 4 1 (bRows (cover C k 0)))]) (fun k => k ≤ C.length) (fun k => C.length - k) 4 (fun k => by simp) ?_ fun k hk' => ?_
    · exact ⟨0, [(0, some _), (1, some _), (2, some _), (3, some _)], Nat.zero_le _, ⟨⟨trivial, trivial, trivial, trivial, trivial, ⟨rfl, rfl, rfl⟩, ⟨rfl, rfl, rfl⟩, ⟨rfl, rfl, rfl⟩, ⟨rfl, rfl, rfl⟩, ⟨rfl, rfl, rfl⟩, fitT_rep _ _ rfl⟩, ⟨.inl rfl, rfl, rfl, rfl, .inl rfl, rfl, rfl, rfl, .inl rfl, rfl, rfl, rfl, .inl rfl, rfl, rfl, rfl, trivial⟩, by simp [rn, hpAt]⟩, by simp [keepIds]⟩
    have w2 : IntKind.i64.wrap ((k : Int) + 1) = ((k + 1 : Nat) : Int) := wrap_id (by omega) (by omega)
    by_cases hk : k < C.length
    · have hrow := pRows_get C k hk
      have hlt : ((k : Int) < (C.length : Int)) = True := eq_true (by omega)
      have h0 : (0 ≤ (k : Int)) = True := eq_true (by omega)
      obtain ⟨⟨p1, p2⟩, p3, p4, p5⟩ := hpart k hk
      have a1 : (C[k].t != V.t) = false := by rw [p1]; exact bne_self_eq_false _
      have a2 : (C[k].h > V.h) = False := eq_false (by omega)
      have a3 : (C[k].a < V.a) = False := eq_false (by omega)
      have v1 : IntKind.i64.wrap (C[k].a + (C[k].d.length : Int)) = C[k].a + (C[k].d.length : Int) := wrap_id (by omega) (by omega)
      have v2 : IntKind.i64.wrap (V.a + (V.d.length : Int)) = V.a + (V.d.length : Int) := wrap_id (by omega) (by omega)
      have a4 : (C[k].a + (C[k].d.length : Int) > V.a + (V.d.length : Int)) = False := eq_false (by omega)
      simp (maxSteps := 3000000) only [Try.f6, ltv, e20, ← hys, hL', hF', hV', hD', hN', pRows_len, bRows_len, cover_len, hrow, hlt, h0, a1, a2, a3, a4, v1, v2, w2, dB, D.toB, pRow, g_alive, g_samePackets, ocOf, g_travelD, g_drawTv, bytesOf_rows, rowsOf_len, stsOf_rows, rtsOf_rows, stRows_len, rtRows_len, ↓reduceIte, Bool.false_eq_true, D.toI, D.toL, tYs, evL, implies_true, oMin, oCopy, oBin, oUn, oLoadKid, oStoreTree, oField, oExtract, oNil, oSliceQ, oLen, nodupB, treeOf, kidAbs, kidRows, TK.isCell, D.toL, oLoad, oStore, oMake, oIndexAddr, ↓reduceIte, reduceCtorEq, Nat.reduceBEq, Nat.reduceAdd, Nat.reduceMul, Nat.reduceLT, Nat.reduceSub, Nat.reduceLeDiff, Nat.reduceEqDiff, Nat.reduceBneDiff, Int.reduceToNat, decide_eq_true_eq, decide_eq_false_iff_not, beq_iff_eq, Int.toNat_natCast, loopK_normal, loopK_exit, loopK_ret, bne_self_eq_false, ↓reduceIte, Bool.not_true, Bool.not_false]
      refine e_loop _ _ _ _ _ _ _ _ (fun j : Nat => [.any, .any, .any, .any, .any, .ptr 0 0, .ptr 1 0, .ptr 2 0, .own 3, .v (.int .i64 (k : Int)), .ptr 4 0, .v (.int .i64 (j : Int))] ++ List.replicate (Try.f6.ntmps - 12) .any) (fun j => [(0, .var 31 [.v (.int .i64 V.f), .v (.int .i64 V.t), .v (.int .i64 V.pr), .v (.int .i64 V.h), .v (.int .i64 V.i), .v (.int .i64 V.a), .v (.bool V.m), .v (.bool V.u), .l 1 (rowsOfBytes V.d)]), (1, .var 48 [.l 9 (pRows C), .l 9 (pRows T), .v (.int .i64 (N : Int))]), (2, .var 48 [.l 9 (pRows C), .l 9 (pRows T), .v (.int .i64 (N : Int))]), (3, .sl 4 1 (bRows (cover C k j))), (4, .var 31 [.v (.int .i64 C[k].f), .v (.int .i64 C[k].t), .v (.int .i64 C[k].p), .v (.int .i64 C[k].h), .v (.int .i64 C[k].i), .v (.int .i64 C[k].a), .v (.bool C[k].m), .v (.bool C[k].u), .l 1 (rowsOfBytes C[k].d)])]) (fun j => j ≤ C[k].d.length) (fun j => C[k].d.length - j) 5 (fun j => by simp) ?_ fun j hj' => ?_
      · exact ⟨0, [(0, some _), (1, some _), (2, some _), (3, some _), (4, some _)], Nat.zero_le _, ⟨⟨trivial, trivial, trivial, trivial, trivial, ⟨rfl, rfl, rfl⟩, ⟨rfl, rfl, rfl⟩, ⟨rfl, rfl, rfl⟩, ⟨rfl, rfl, rfl⟩, ⟨rfl, rfl, rfl⟩, ⟨rfl, rfl, rfl⟩, ⟨rfl, rfl, rfl⟩, fitT_rep _ _ rfl⟩, ⟨.inl rfl, rfl, rfl, rfl, .inl rfl, rfl, rfl, rfl, .inl rfl, rfl, rfl, rfl, .inl rfl, rfl, rfl, rfl, .inl rfl, rfl, rfl, rfl, trivial⟩, by simp [rn, hpAt]⟩, by simp [keepIds]⟩
      have w3 : IntKind.i64.wrap ((j : Int) + 1) = ((j + 1 : Nat) : Int) := wrap_id (by omega) (by omega)
      by_cases hj : j < C[k].d.length
      · have jlt : ((j : Int) < (C[k].d.length : Int)) = True := eq_true (by omega)
        have j0 : (0 ≤ (j : Int)) = True := eq_true (by omega)
        have v3 : IntKind.i64.wrap (C[k].a + (j : Int)) = C[k].a + (j : Int) := wrap_id (by omega) (by omega)
        have v4 : IntKind.i64.wrap (C[k].a + (j : Int) - V.a) = C[k].a + (j : Int) - V.a := wrap_id (by omega) (by omega)
        have i1 : (0 ≤ C[k].a + (j : Int)) = True := eq_true (by omega)
        have i2 : (C[k].a + (j : Int) < 400) = True := eq_true (by omega)
        have i3 : (0 ≤ C[k].a + (j : Int) - V.a) = True := eq_true (by omega)
        have i4 : (C[k].a + (j : Int) - V.a < (V.d.length : Int)) = True := eq_true (by omega)
        have g1 : (bRows (cover C k j)).getD (C[k].a + (j : Int)).toNat [] = [D.v (.bool false)] := by
          rw [bRows_get _ _ (by rw [cover_len]; omega), cover_get C k j _ (by omega), cover_free hkt k j hk hj (by omega)]
        have g2 : (bRows (cover C k j)).set (C[k].a + (j : Int)).toNat [D.v (.bool true)] = bRows (cover C k (j + 1)) := by
          rw [bRows_set, cover_set C k j hk hj (by omega)]
        have hb := part_byte (hkt.1 _ (List.getElem_mem hk)) hj
        rw [hx] at hb
        have g3 := rowsOf_get C[k].d j hj
        have g4 := rowsOf_get V.d (C[k].a + (j : Int) - V.a).toNat hb.2.1
        dsimp only at hb
        rw [← hb.2.2] at g4
        simp (maxSteps := 3000000) only [Try.f6, ltv, e20, ← hys, hL', hF', hV', hD', hN', pRows_len, bRows_len, cover_len, jlt, j0, v3, v4, i1, i2, i3, i4, g1, g2, g3, g4, w3, dB, D.toB, g_alive, g_samePackets, ocOf, g_travelD, g_drawTv, bytesOf_rows, rowsOf_len, stsOf_rows, rtsOf_rows, stRows_len, rtRows_len, ↓reduceIte, Bool.false_eq_true, D.toI, D.toL, tYs, evL, implies_true, oMin, oCopy, oBin, oUn, oLoadKid, oStoreTree, oField, oExtract, oNil, oSliceQ, oLen, nodupB, treeOf, kidAbs, kidRows, TK.isCell, D.toL, oLoad, oStore, oMake, oIndexAddr, ↓reduceIte, reduceCtorEq, Nat.reduceBEq, Nat.reduceAdd, Nat.reduceMul, Nat.reduceLT, Nat.reduceSub, Nat.reduceLeDiff, Nat.reduceEqDiff, Nat.reduceBneDiff, Int.reduceToNat, decide_eq_true_eq, decide_eq_false_iff_not, beq_iff_eq, Int.toNat_natCast, loopK_normal, loopK_exit, loopK_ret, bne_self_eq_false, ↓reduceIte, Bool.not_true, Bool.not_false]
        refine ⟨by omega, by omega, by kernel_rfl, by omega, by omega, ?_⟩
        exact ⟨j + 1, [(0, some _), (1, some _), (2, some _), (3, some _), (4, some _)], by omega, by omega, ⟨⟨trivial, trivial, trivial, trivial, trivial, ⟨rfl, rfl, rfl⟩, ⟨rfl, rfl, rfl⟩, ⟨rfl, rfl, rfl⟩, ⟨rfl, rfl, rfl⟩, ⟨rfl, rfl, rfl⟩, ⟨rfl, rfl, rfl⟩, ⟨rfl, rfl, rfl⟩, fitT_rep _ _ rfl⟩, ⟨.inl rfl, rfl, rfl, rfl, .inl rfl, rfl, rfl, rfl, .inl rfl, rfl, rfl, rfl, .inl rfl, rfl, rfl, rfl, .inl rfl, rfl, rfl, rfl, trivial⟩, by simp [rn, hpAt]⟩, by simp [keepIds]⟩
      · have jlt : ((j : Int) < (C[k].d.length : Int)) = False := eq_false (by omega)
        obtain rfl : j = C[k].d.length := by omega
        rw [cover_next C k hk]
        simp (maxSteps := 3000000) only [Try.f6, ltv, e20, ← hys, hL', hF', hV', hD', hN', pRows_len, bRows_len, cover_len, jlt, w2, w3, g_alive, g_samePackets, ocOf, g_travelD, g_drawTv, bytesOf_rows, rowsOf_len, stsOf_rows, rtsOf_rows, stRows_len, rtRows_len, ↓reduceIte, Bool.false_eq_true, D.toI, D.toL, tYs, evL, implies_true, oMin, oCopy, oBin, oUn, oLoadKid, oStoreTree, oField, oExtract, oNil, oSliceQ, oLen, nodupB, treeOf, kidAbs, kidRows, TK.isCell, D.toL, oLoad, oStore, oMake, oIndexAddr, ↓reduceIte, reduceCtorEq, Nat.reduceBEq, Nat.reduceAdd, Nat.reduceMul, Nat.reduceLT, Nat.reduceSub, Nat.reduceLeDiff, Nat.reduceEqDiff, Nat.reduceBneDiff, Int.reduceToNat, decide_eq_true_eq, decide_eq_false_iff_not, beq_iff_eq, Int.toNat_natCast, loopK_normal, loopK_exit, loopK_ret, bne_self_eq_false, ↓reduceIte, Bool.not_true, Bool.not_false]
        exact ⟨k + 1, [(0, some _), (1, some _), (2, some _), (3, some _)], by omega, by omega, ⟨⟨trivial, trivial, trivial, trivial, trivial, ⟨rfl, rfl, rfl⟩, ⟨rfl, rfl, rfl⟩, ⟨rfl, rfl, rfl⟩, ⟨rfl, rfl, rfl⟩, ⟨rfl, rfl, rfl⟩, fitT_rep _ _ rfl⟩, ⟨.inl rfl, rfl, rfl, rfl, .inl rfl, rfl, rfl, rfl, .inl rfl, rfl, rfl, rfl, .inl rfl, rfl, rfl, rfl, trivial⟩, by simp [rn, hpAt]⟩, by simp [keepIds]⟩
    · have hlt : ((k : Int) < (C.length : Int)) = False := eq_false (by omega)
      simp (maxSteps := 3000000) only [Try.f6, ltv, e20, ← hys, hL', hF', hV', hD', hN', pRows_len, bRows_len, cover_len, hlt, w2, g_alive, g_samePackets, ocOf, g_travelD, g_drawTv, bytesOf_rows, rowsOf_len, stsOf_rows, rtsOf_rows, stRows_len, rtRows_len, ↓reduceIte, Bool.false_eq_true, D.toI, D.toL, tYs, evL, implies_true, oMin, oCopy, oBin, oUn, oLoadKid, oStoreTree, oField, oExtract, oNil, oSliceQ, oLen, nodupB, treeOf, kidAbs, kidRows, TK.isCell, D.toL, oLoad, oStore, oMake, oIndexAddr, ↓reduceIte, reduceCtorEq, Nat.reduceBEq, Nat.reduceAdd, Nat.reduceMul, Nat.reduceLT, Nat.reduceSub, Nat.reduceLeDiff, Nat.reduceEqDiff, Nat.reduceBneDiff, Int.reduceToNat, decide_eq_true_eq, decide_eq_false_iff_not, beq_iff_eq, Int.toNat_natCast, loopK_normal, loopK_exit, loopK_ret, bne_self_eq_false, ↓reduceIte, Bool.not_true, Bool.not_false]
      exact ⟨_, [], rfl, ⟨⟨⟨rfl, rfl, rfl⟩, trivial⟩, trivial, by simp [rn, hpAt]⟩⟩
  · cases hg
theorem walk_Travel (A : Option Addr) (n c : Nat) (xs : List UInt8) (w : World) (h : Rd w w.heap.size A n (bv xs)) (hc : n ≤ c) :
    Calls Try.prog 6 #[.slice A n c] w fun e w' => e = .returned (.bool true) ∧ Below w.heap.size w w' :=
  lawTravel_ok.walk (vs := [_]) (arel_cons (.l _ _ _ (rep_of_rd h hc)) arel_nil) rfl ⟨xs, rfl⟩
end Go.Proofs.Ythbcoakimbpkgaa
