import Derived.Test.YtegffkmakkccaaaHt
import Derived.Test.YtegffkmakkccaaaHu
import Derived.Test.YtegffkmakkccaaaHc
import Derived.Test.YtegffkmakkccaaaHn
import Derived.Test.YtegffkmakkccaaaXe
import Derived.Test.YtegffkmakkccaaaXi
set_option linter.unusedVariables false
set_option linter.unusedSimpArgs false
namespace Go.Proofs.Ytegffkmakkccaaa
open Go.RowKit
set_option linter.unusedSimpArgs false
def hearL (l : List Pt) (q : Pk) (n : Int) : List Pt := if phS l q n = true then (phF l q n).drop 1 else phF l q n
theorem hear_len3 {l : List Pt} {q : Pk} {n : Int} (h : phS l q n = false) : (phF l q n).length ≤ 3 := by
  rw [phF]
  split
  · rename_i hok
    have hok2 := hok
    simp only [phOk, Bool.and_eq_true] at hok2
    have h3 := (ptsB_all hok2.1.1).1
    have h4 := liveP_len l n
    split
    · omega
    · rename_i ha
      split
      · rename_i hf
        rw [phS, hok, Bool.true_and, decide_eq_true hf, Bool.and_true] at h
        have ha' : alone q = false := Bool.eq_false_iff.2 ha
        rw [ha', Bool.not_false, Bool.true_and, Bool.not_eq_false', decide_eq_true_eq] at h
        rw [withF, List.length_append]
        simp only [List.length_cons, List.length_nil]
        omega
      · rw [hitL]
        split
        · exact Nat.le_trans (outP_len _ _) (by omega)
        · split
          · exact Nat.le_trans (outP_len _ _) (by omega)
          · rw [List.length_set]; omega
  · exact Nat.zero_le _
theorem hearL_mem {l : List Pt} {q : Pk} {n : Int} {x : Pt} (h : x ∈ hearL l q n) : x ∈ phF l q n := by
  rw [hearL] at h
  split at h
  · exact List.mem_of_mem_drop h
  · exact h
theorem hearL_ok {l : List Pt} {q : Pk} {n : Int} : ptsB (hearL l q n) = true := by
  refine ptsB_lone.2 ⟨?_, ?_⟩
  · rw [hearL]
    split
    · rename_i h; rw [List.length_drop, phS_len h]; omega
    · rename_i h; exact hear_len3 (Bool.eq_false_iff.2 h)
  · rw [hearL]
    split
    · exact ph_lone.sub (List.drop_sublist _ _)
    · exact ph_lone
theorem hearL_mid {l : List Pt} {q : Pk} (n : Int) (hm : ptMid l) (hq : q.d.length ≤ 1048576) : ptMid (hearL l q n) := by
  obtain ⟨h1, h2⟩ := phF_bd (q := q) n hm hq
  have hF : ptMid (phF l q n) := ⟨by omega, fun x hx => (h2 x hx).1⟩
  rw [hearL]
  split
  · exact ptMid_drop hF 1
  · exact hF
theorem plP_q (xs : List UInt8) : 0 ≤ (plP xs 0 20).q ∧ (plP xs 0 20).q ≤ 2000 ∧ (plP xs 0 20).d.length ≤ 1048576 := by
  have hcb := dcC_bd xs 0 (by omega)
  have hq := plK_q xs (dcC xs 0) ((lnV xs 0).q + 1 + 1) (plN xs 0)
  have hlq := lnV_q xs 0 (by omega)
  have hn : plN xs 0 ≤ 6 := by
    have := pickV_lt xs ((lnV xs 0).q + 1) 7 (by omega)
    have := pickV_nonneg xs ((lnV xs 0).q + 1) 7 (by omega)
    rw [plN]; omega
  have heb := oneIf_le 20
  have es : (plS xs 0).q = (plK xs (dcC xs 0) ((lnV xs 0).q + 1 + 1) (plN xs 0)).q := rfl
  have hd := (dpV_bd xs ((plS xs 0).q + oneIf 20) 1 (by omega)).1
  have hR : 0 ≤ plR xs 0 20 ∧ plR xs 0 20 ≤ 1500 := by
    rw [plR]
    split
    · show 0 ≤ (dpV xs ((plS xs 0).q + oneIf 20) 1).q ∧ (dpV xs ((plS xs 0).q + oneIf 20) 1).q ≤ 1500
      omega
    · omega
  rw [plP]
  split
  · have := pktV_q xs (plR xs 0 20 + 1) 6
    omega
  · refine ⟨by dsimp only; omega, by dsimp only; omega, ?_⟩
    dsimp only
    by_cases hk : (pickV xs (plR xs 0 20 + 1) (dcC xs 0).length).toNat < (dcC xs 0).length
    · rw [pk_get hk]
      have := hcb.2 _ (List.getElem_mem hk)
      omega
    · rw [List.getD_eq_getElem?_getD, List.getElem?_eq_none (by omega)]; simp [pk0]
def g_hearA : PC := fun args => match args with
  | [.l _ rows', .agg [.v (.int .i64 f), .v (.int .i64 t), .v (.int .i64 p), .v (.int .i64 h), .v (.int .i64 i), .v (.int .i64 a), .v (.bool m), .v (.bool u), .l _ rows], .v (.int .i64 n)] => some ((∃ l, rows' = ptRows l ∧ ptMid l) ∧ ∃ xs, rows = rowsOfBytes xs ∧ xs.length ≤ 1048576,
      .tup [.l 2 (ptRows (hearL (ptsOf rows') ⟨f, t, p, h, i, a, m, u, bytesOfRows rows⟩ n)), .agg [.v (.int .i64 (phP (ptsOf rows') ⟨f, t, p, h, i, a, m, u, bytesOfRows rows⟩ n).f), .v (.int .i64 (phP (ptsOf rows') ⟨f, t, p, h, i, a, m, u, bytesOfRows rows⟩ n).t), .v (.int .i64 (phP (ptsOf rows') ⟨f, t, p, h, i, a, m, u, bytesOfRows rows⟩ n).p), .v (.int .i64 (phP (ptsOf rows') ⟨f, t, p, h, i, a, m, u, bytesOfRows rows⟩ n).h), .v (.int .i64 (phP (ptsOf rows') ⟨f, t, p, h, i, a, m, u, bytesOfRows rows⟩ n).i), .v (.int .i64 (phP (ptsOf rows') ⟨f, t, p, h, i, a, m, u, bytesOfRows rows⟩ n).a), .v (.bool (phP (ptsOf rows') ⟨f, t, p, h, i, a, m, u, bytesOfRows rows⟩ n).m), .v (.bool (phP (ptsOf rows') ⟨f, t, p, h, i, a, m, u, bytesOfRows rows⟩ n).u), .l 1 (rowsOfBytes (phP (ptsOf rows') ⟨f, t, p, h, i, a, m, u, bytesOfRows rows⟩ n).d)], .v (.bool (phB (ptsOf rows') ⟨f, t, p, h, i, a, m, u, bytesOfRows rows⟩ n))], [])
  | _ => none
def dhN (xs : List UInt8) : Int := pickV xs (plP xs 0 20).q 14 + pickV xs ((plP xs 0 20).q + 1) 6 / 5 * 10
def g_drawPah : PC := fun args => match args with
  | [.l _ rows] => some (∃ xs, rows = rowsOfBytes xs, .tup [.l 2 (ptRows (plLs ((bytesOfRows rows).take 2000) 0 20)), .agg [.v (.int .i64 (plP ((bytesOfRows rows).take 2000) 0 20).f), .v (.int .i64 (plP ((bytesOfRows rows).take 2000) 0 20).t), .v (.int .i64 (plP ((bytesOfRows rows).take 2000) 0 20).pr), .v (.int .i64 (plP ((bytesOfRows rows).take 2000) 0 20).h), .v (.int .i64 (plP ((bytesOfRows rows).take 2000) 0 20).i), .v (.int .i64 (plP ((bytesOfRows rows).take 2000) 0 20).a), .v (.bool (plP ((bytesOfRows rows).take 2000) 0 20).m), .v (.bool (plP ((bytesOfRows rows).take 2000) 0 20).u), .l 1 (rowsOfBytes (plP ((bytesOfRows rows).take 2000) 0 20).d)], .v (.int .i64 (dhN ((bytesOfRows rows).take 2000)))], [])
  | _ => none
theorem implPartsHearA_ok : OwnOk Try.prog 15 (ocOf g_hearA) := by
  refine implPartsHear_ok.toOwn.toData.narrow fun args B0 c r B1 bs hg hc => ?_
  unfold ocOf g_hearA at hg
  split at hg
  · split at hg
    · rename_i c' r' bs' hg'
      cases hg
      split at hg'
      · rename_i sz' rows' f t p h i a m u sz rows n
        cases hg'
        refine ⟨(∃ l, rows' = ptRows l ∧ ptMid l) ∧ ∃ xs, rows = rowsOfBytes xs ∧ xs.length ≤ 1048576, ?_, hc⟩
        rcases h3 : phS (ptsOf rows') ⟨f, t, p, h, i, a, m, u, bytesOfRows rows⟩ n with _ | _
        · simp only [ocOf, dataOf, g_partsHear, hearL, h3]
          rfl
        · have e : ptRows ((phF (ptsOf rows') ⟨f, t, p, h, i, a, m, u, bytesOfRows rows⟩ n).drop 1) = ((ptRows (phF (ptsOf rows') ⟨f, t, p, h, i, a, m, u, bytesOfRows rows⟩ n)).take 4).drop 1 := by
            rw [List.take_of_length_le (by rw [ptRows_len, phS_len h3]; exact Nat.le_refl _)]
            simp [ptRows, List.map_drop]
          simp only [ocOf, dataOf, g_partsHear, hearL, h3, ↓reduceIte, e]
          rfl
      · cases hg'
    · cases hg
  · cases hg
theorem specPartsHearA_ok : OwnOk Try.prog 16 (ocOf g_hearA) := by
  refine specPartsHear_ok.toOwn.toData.narrow fun args B0 c r B1 bs hg hc => ?_
  unfold ocOf g_hearA at hg
  split at hg
  · split at hg
    · rename_i c' r' bs' hg'
      cases hg
      split at hg'
      · rename_i sz' rows' f t p h i a m u sz rows n
        cases hg'
        refine ⟨(∃ l, rows' = ptRows l ∧ ptMid l) ∧ ∃ xs, rows = rowsOfBytes xs ∧ xs.length ≤ 1048576, ?_, hc⟩
        rcases h3 : phS (ptsOf rows') ⟨f, t, p, h, i, a, m, u, bytesOfRows rows⟩ n with _ | _
        · simp only [ocOf, dataOf, g_sPartsHear, hearL, h3]
          rfl
        · have e : ptRows ((phF (ptsOf rows') ⟨f, t, p, h, i, a, m, u, bytesOfRows rows⟩ n).drop 1) = ((ptRows (phF (ptsOf rows') ⟨f, t, p, h, i, a, m, u, bytesOfRows rows⟩ n)).take 4).drop 1 := by
            rw [List.take_of_length_le (by rw [ptRows_len, phS_len h3]; exact Nat.le_refl _)]
            simp [ptRows, List.map_drop]
          simp only [ocOf, dataOf, g_sPartsHear, hearL, h3, ↓reduceIte, e]
          rfl
      · cases hg'
    · cases hg
  · cases hg
def kdh : List (FuncId × Abs) := [(52, ownAbs g_open), (58, ownAbs g_pick), (51, ownAbs g_lparts)]
theorem kdh_ok : ∀ p ∈ kdh, CallOk Try.prog p.1 p.2 := by
  intro p hp
  simp only [kdh, List.mem_cons, List.not_mem_nil, or_false] at hp
  rcases hp with rfl | rfl | rfl
  · exact open_ok.call
  · exact pick_ok.call
  · exact l20Parts_ok.call
set_option maxHeartbeats 4000000 in
set_option maxRecDepth 100000 in
theorem drawPartsHear_ok : OwnOk Try.prog 14 (ocOf g_drawPah) := by
  refine OwnOk.of_vcD (G := kdh) kdh_ok mixed Try.func14 (by kernel_rfl) rfl ?_
  intro args cnd r bs hg hc
  unfold g_drawPah at hg
  split at hg
  · rename_i sz rows
    cases hg
    obtain ⟨xs, rfl⟩ := hc
    rw [bytesOf_rows]
    have hx : (∃ ys, rowsOfBytes (List.take 2000 xs) = rowsOfBytes ys ∧ ys.length ≤ 2000) = True := eq_true ⟨_, rfl, by rw [List.length_take]; omega⟩
    obtain ⟨ys, hys⟩ : ∃ ys, ys = List.take 2000 xs := ⟨_, rfl⟩
    rw [← hys] at hx ⊢
    have hq := plP_q ys
    have hv : dhN ys = pickV ys (plP ys 0 20).q 14 + pickV ys ((plP ys 0 20).q + 1) 6 / 5 * 10 := rfl
    rw [hv]
    obtain ⟨P, hP⟩ : ∃ P, plP ys 0 20 = P := ⟨_, rfl⟩
    rw [hP] at hq ⊢
    have a1 := pickV_nonneg ys P.q 14 (by omega)
    have a2 := pickV_lt ys P.q 14 (by omega)
    have a3 := pickV_nonneg ys (P.q + 1) 6 (by omega)
    have a4 := pickV_lt ys (P.q + 1) 6 (by omega)
    have hdv : (pickV ys (P.q + 1) 6).tdiv 5 = pickV ys (P.q + 1) 6 / 5 := Int.tdiv_eq_ediv_of_nonneg a3
    have hd0 : 0 ≤ pickV ys (P.q + 1) 6 / 5 ∧ pickV ys (P.q + 1) 6 / 5 ≤ 1 := by omega
    have w1 : IntKind.i64.wrap (pickV ys (P.q + 1) 6 / 5) = pickV ys (P.q + 1) 6 / 5 := wrap_id (by omega) (by omega)
    have w2 : IntKind.i64.wrap (pickV ys (P.q + 1) 6 / 5 * 10) = pickV ys (P.q + 1) 6 / 5 * 10 := wrap_id (by omega) (by omega)
    have w3 : IntKind.i64.wrap (pickV ys P.q 14 + pickV ys (P.q + 1) 6 / 5 * 10) = pickV ys P.q 14 + pickV ys (P.q + 1) 6 / 5 * 10 := wrap_id (by omega) (by omega)
    refine ⟨⟨rfl, by simp [AV.ids, AV.ids.idsL]⟩, [.l 1 (rowsOfBytes xs)], rfl, fun w Z s vs h => CvL.ok (.cons (.l _ _ _ (rowsOf_w xs)) .nil) h, ?_⟩
    simp (maxSteps := 3000000) only [Try.f14, kdh, g_open, g_lparts, g_pick, bytesOf_rows, rowsOf_len, ← hys, hx, hP, hdv, w1, w2, w3, tYs, evL, implies_true, oMin, oCopy, oBin, oUn, oLoadKid, oStoreTree, oField, oExtract, oNil, oSliceQ, oLoadRow, takeCells, TS.atRow, TS.ex, treeMode, AV.isOwn, TK.isSl, nilTk, nilsB, oLenQ, oLen, nodupB, treeOf, kidAbs, kidRows, TK.isCell, D.toL, oLoad, oStore, oMake, oIndexAddr, ↓reduceIte, reduceCtorEq, Nat.reduceBEq, Nat.reduceAdd, Nat.reduceMul, Nat.reduceLT, Nat.reduceSub, Nat.reduceLeDiff, Nat.reduceEqDiff, Nat.reduceBneDiff, Int.reduceToNat, decide_eq_true_eq, decide_eq_false_iff_not, beq_iff_eq, Int.toNat_natCast, doneD_ret, doneD_normal]
    clear w1 w2 w3 hdv
    (repeat (refine And.intro ?_ ?_; focus (((repeat' apply And.intro) <;> first | exact rowsOf_w _ | omega | (simp only [List.length_append, rowsOf_len, List.length_cons, List.length_nil, marks_len, List.length_take, List.length_drop, List.length_set]; omega) | exact ⟨_, rfl⟩ | (refine ⟨_, rfl, ?_⟩; omega) | (refine ⟨_, rfl, ?_⟩; simp only [List.length_append, rowsOf_len, List.length_cons, List.length_nil, marks_len, List.length_take, List.length_drop, List.length_set]; omega) | kernel_rfl | (simp; done)); done)))
    exact ⟨_, rfl, rfl⟩
  · cases hg
def llh : List (FuncId × Abs) := [(13, pureAbs g_alive), (17, pureAbs g_samePacket), (18, pureAbs g_sameParts), (11, pureAbs g_partsOk), (19, pureAbs g_packetOk), (15, ownAbs (ocOf g_hearA)), (16, ownAbs (ocOf g_hearA)), (14, ownAbs (ocOf g_drawPah))]
theorem llh_ok : ∀ p ∈ llh, CallOk Try.prog p.1 p.2 := by
  intro p hp
  simp only [llh, List.mem_cons, List.not_mem_nil, or_false] at hp
  rcases hp with rfl | rfl | rfl | rfl | rfl | rfl | rfl | rfl
  · exact alive_ok.call
  · exact samePacket_ok.call
  · exact sameParts_ok.call
  · exact implPartsOk_ok.call
  · exact implPacketOk_ok.call
  · exact implPartsHearA_ok.call
  · exact specPartsHearA_ok.call
  · exact drawPartsHear_ok.call
set_option maxHeartbeats 8000000 in
set_option maxRecDepth 100000 in
theorem lawPartsHear_ok : PureOk Try.prog 4 g_true := by
  refine PureOk.of_vc (G := llh) llh_ok mixed Try.func4 (by kernel_rfl) rfl ?_
  intro args cnd r bs hg hc
  unfold g_true at hg
  split at hg
  · rename_i sz rows
    cases hg
    obtain ⟨xs, rfl⟩ := hc
    refine ⟨⟨rfl, by simp, by simp [AV.ids, AV.ids.idsL]⟩, [.l 1 (rowsOfBytes xs)], rfl, fun w vs h => CvL.ok (.cons (.l _ _ _ (rowsOf_w xs)) .nil) h, ?_⟩
    obtain ⟨ys, hys⟩ : ∃ ys, ys = List.take 2000 xs := ⟨_, rfl⟩
    by_cases h20 : (xs.length : Int) > 1048576
    · have e20 : ((xs.length : Int) > 1048576) = True := eq_true h20
      simp (maxSteps := 3000000) only [Try.f4, llh, e20, g_alive, g_samePacket, g_sameParts, g_partsOk, g_packetOk, ocOf, g_hearA, g_drawPah, bytesOf_rows, rowsOf_len, ↓reduceIte, Bool.false_eq_true, Bool.not_true, Bool.not_false, ptRows_len, ptsOf_rows, D.toI, D.toL, tYs, evL, implies_true, oMin, oCopy, oBin, oUn, oLoadKid, oStoreTree, oField, oExtract, oNil, oSliceQ, oLoadRow, takeCells, TS.atRow, TS.ex, treeMode, AV.isOwn, TK.isSl, nilTk, nilsB, oLenQ, oLen, nodupB, treeOf, kidAbs, kidRows, TK.isCell, D.toL, oLoad, oStore, oMake, oIndexAddr, ↓reduceIte, reduceCtorEq, Nat.reduceBEq, Nat.reduceAdd, Nat.reduceMul, Nat.reduceLT, Nat.reduceSub, Nat.reduceLeDiff, Nat.reduceEqDiff, Nat.reduceBneDiff, Int.reduceToNat, decide_eq_true_eq, decide_eq_false_iff_not, beq_iff_eq, Int.toNat_natCast, loopK_normal, loopK_exit, loopK_ret, bne_self_eq_false]
      exact ⟨_, [], rfl, ⟨⟨⟨rfl, rfl, rfl⟩, trivial⟩, trivial, by simp [rn, hpAt]⟩⟩
    have e20 : ((xs.length : Int) > 1048576) = False := eq_false h20
    have hm := (plLs_mid ys 20).1
    obtain ⟨L, hL⟩ : ∃ L, L = plLs ys 0 20 := ⟨_, rfl⟩
    have hL' := hL.symm
    rw [hL'] at hm
    have hd := (plP_q ys).2.2
    obtain ⟨P, hP⟩ : ∃ P, P = plP ys 0 20 := ⟨_, rfl⟩
    have hP' := hP.symm
    rw [hP'] at hd
    obtain ⟨n, hN⟩ : ∃ n, n = dhN ys := ⟨_, rfl⟩
    have hN' := hN.symm
    clear hL hP hN
    obtain ⟨O, hO⟩ : ∃ O, O = hearL L ⟨P.f, P.t, P.pr, P.h, P.i, P.a, P.m, P.u, P.d⟩ n := ⟨_, rfl⟩
    have hOO := hO.symm
    obtain ⟨W, hW⟩ : ∃ W, W = phP L ⟨P.f, P.t, P.pr, P.h, P.i, P.a, P.m, P.u, P.d⟩ n := ⟨_, rfl⟩
    have hWW := hW.symm
    obtain ⟨B, hBB⟩ : ∃ B, B = phB L ⟨P.f, P.t, P.pr, P.h, P.i, P.a, P.m, P.u, P.d⟩ n := ⟨_, rfl⟩
    have hB := hBB.symm
    have hom : ptMid O := by rw [hO]; exact hearL_mid n hm hd
    have hok : ptsB O = true := by rw [hO]; exact hearL_ok
    have hou : ∀ x ∈ O, n < x.u := fun x hx => by rw [hO] at hx; exact ph_out x (hearL_mem hx)
    have hwh : B = true → W.ok = true ∧ W.a = 0 ∧ W.m = false := fun h => by rw [hW]; exact ph_whole (by rw [hB]; exact h)
    have hon := hom.1
    clear hO hW hBB
    simp (maxSteps := 3000000) only [Try.f4, llh, e20, ← hys, hL', hP', hN', hOO, hWW, hB, and_self, decide_true, g_alive, g_samePacket, g_sameParts, g_partsOk, g_packetOk, ocOf, g_hearA, g_drawPah, bytesOf_rows, rowsOf_len, ↓reduceIte, Bool.false_eq_true, Bool.not_true, Bool.not_false, ptRows_len, ptsOf_rows, D.toI, D.toL, tYs, evL, implies_true, oMin, oCopy, oBin, oUn, oLoadKid, oStoreTree, oField, oExtract, oNil, oSliceQ, oLoadRow, takeCells, TS.atRow, TS.ex, treeMode, AV.isOwn, TK.isSl, nilTk, nilsB, oLenQ, oLen, nodupB, treeOf, kidAbs, kidRows, TK.isCell, D.toL, oLoad, oStore, oMake, oIndexAddr, ↓reduceIte, reduceCtorEq, Nat.reduceBEq, Nat.reduceAdd, Nat.reduceMul, Nat.reduceLT, Nat.reduceSub, Nat.reduceLeDiff, Nat.reduceEqDiff, Nat.reduceBneDiff, Int.reduceToNat, decide_eq_true_eq, decide_eq_false_iff_not, beq_iff_eq, Int.toNat_natCast, loopK_normal, loopK_exit, loopK_ret, bne_self_eq_false]
    refine ⟨⟨xs, rfl⟩, ⟨⟨_, rfl, hm⟩, _, rfl, hd⟩, ⟨⟨_, rfl, hm⟩, _, rfl, hd⟩, ⟨_, rfl⟩, ⟨_, rfl, rfl, hom⟩, ?_⟩
    refine e_loop _ _ _ _ _ _ _ _ (fun k : Nat => [.any, .any, .any, .any, .any, .v (.int .i64 n), .l 2 (ptRows O), .ptr 0 0, .v (.bool B), .any, .any, .any, .v (.int .i64 (k : Int))] ++ List.replicate (Try.f4.ntmps - 13) .any) (fun k => [(0, .var 29 [.v (.int .i64 W.f), .v (.int .i64 W.t), .v (.int .i64 W.p), .v (.int .i64 W.h), .v (.int .i64 W.i), .v (.int .i64 W.a), .v (.bool W.m), .v (.bool W.u), .l 1 (rowsOfBytes W.d)])]) (fun k => k ≤ O.length) (fun k => O.length - k) 1 (fun k => by simp) ?_ fun k hk' => ?_
    · exact ⟨0, [(0, some _)], Nat.zero_le _, ⟨⟨trivial, trivial, trivial, trivial, trivial, ⟨rfl, rfl, rfl⟩, ⟨rfl, rfl, rfl⟩, ⟨rfl, rfl, rfl⟩, ⟨rfl, rfl, rfl⟩, trivial, trivial, trivial, ⟨rfl, rfl, rfl⟩, fitT_rep _ _ rfl⟩, ⟨.inl rfl, rfl, rfl, rfl, trivial⟩, by simp [rn, hpAt]⟩, by simp [keepIds]⟩
    have hk1 : k ≤ O.length := hk'
    have w2 : IntKind.i64.wrap ((k : Int) + 1) = ((k + 1 : Nat) : Int) := by rw [wrap_id] <;> omega
    by_cases hk : k < O.length
    · have c1 : ((k : Int) < (O.length : Int)) = True := eq_true (by omega)
      have c0 : (0 ≤ (k : Int)) = True := eq_true (by omega)
      have hrow := ptRows_get O k hk
      have hu := hou O[k] (List.getElem_mem hk)
      have hle : (O[k].u ≤ n) = False := eq_false (by omega)
      simp (maxSteps := 3000000) only [Try.f4, llh, e20, ← hys, hL', hP', hN', hOO, hWW, hB, c1, c0, hrow, hle, w2, ptRow, g_alive, g_samePacket, g_sameParts, g_partsOk, g_packetOk, ocOf, g_hearA, g_drawPah, bytesOf_rows, rowsOf_len, ↓reduceIte, Bool.false_eq_true, Bool.not_true, Bool.not_false, ptRows_len, ptsOf_rows, D.toI, D.toL, tYs, evL, implies_true, oMin, oCopy, oBin, oUn, oLoadKid, oStoreTree, oField, oExtract, oNil, oSliceQ, oLoadRow, takeCells, TS.atRow, TS.ex, treeMode, AV.isOwn, TK.isSl, nilTk, nilsB, oLenQ, oLen, nodupB, treeOf, kidAbs, kidRows, TK.isCell, D.toL, oLoad, oStore, oMake, oIndexAddr, ↓reduceIte, reduceCtorEq, Nat.reduceBEq, Nat.reduceAdd, Nat.reduceMul, Nat.reduceLT, Nat.reduceSub, Nat.reduceLeDiff, Nat.reduceEqDiff, Nat.reduceBneDiff, Int.reduceToNat, decide_eq_true_eq, decide_eq_false_iff_not, beq_iff_eq, Int.toNat_natCast, loopK_normal, loopK_exit, loopK_ret, bne_self_eq_false]
      exact ⟨k + 1, [(0, some 0)], by omega, by omega, ⟨⟨trivial, trivial, trivial, trivial, trivial, ⟨rfl, rfl, rfl⟩, ⟨rfl, rfl, rfl⟩, ⟨rfl, rfl, rfl⟩, ⟨rfl, rfl, rfl⟩, trivial, trivial, trivial, ⟨rfl, rfl, rfl⟩, fitT_rep _ _ rfl⟩, ⟨.inl rfl, rfl, rfl, rfl, trivial⟩, by simp [rn, hpAt]⟩, by simp [keepIds]⟩
    · have c1 : ((k : Int) < (O.length : Int)) = False := eq_false (by omega)
      cases B with
      | false =>
        simp (maxSteps := 3000000) only [Try.f4, llh, e20, ← hys, hL', hP', hN', hOO, hWW, hB, c1, hok, g_alive, g_samePacket, g_sameParts, g_partsOk, g_packetOk, ocOf, g_hearA, g_drawPah, bytesOf_rows, rowsOf_len, ↓reduceIte, Bool.false_eq_true, Bool.not_true, Bool.not_false, ptRows_len, ptsOf_rows, D.toI, D.toL, tYs, evL, implies_true, oMin, oCopy, oBin, oUn, oLoadKid, oStoreTree, oField, oExtract, oNil, oSliceQ, oLoadRow, takeCells, TS.atRow, TS.ex, treeMode, AV.isOwn, TK.isSl, nilTk, nilsB, oLenQ, oLen, nodupB, treeOf, kidAbs, kidRows, TK.isCell, D.toL, oLoad, oStore, oMake, oIndexAddr, ↓reduceIte, reduceCtorEq, Nat.reduceBEq, Nat.reduceAdd, Nat.reduceMul, Nat.reduceLT, Nat.reduceSub, Nat.reduceLeDiff, Nat.reduceEqDiff, Nat.reduceBneDiff, Int.reduceToNat, decide_eq_true_eq, decide_eq_false_iff_not, beq_iff_eq, Int.toNat_natCast, loopK_normal, loopK_exit, loopK_ret, bne_self_eq_false]
        refine ⟨⟨_, rfl, hom⟩, ?_⟩
        exact ⟨_, [], rfl, ⟨⟨⟨rfl, rfl, rfl⟩, trivial⟩, trivial, by simp [rn, hpAt]⟩⟩
      | true =>
        obtain ⟨x1, x2, x3⟩ := hwh rfl
        have x4 : pkB W.f W.t W.p W.h W.i W.a W.m W.u W.d.length = true := x1
        rw [x2, x3] at x4
        simp (maxSteps := 3000000) only [Try.f4, llh, e20, ← hys, hL', hP', hN', hOO, hWW, hB, c1, hok, x2, x3, x4, g_alive, g_samePacket, g_sameParts, g_partsOk, g_packetOk, ocOf, g_hearA, g_drawPah, bytesOf_rows, rowsOf_len, ↓reduceIte, Bool.false_eq_true, Bool.not_true, Bool.not_false, ptRows_len, ptsOf_rows, D.toI, D.toL, tYs, evL, implies_true, oMin, oCopy, oBin, oUn, oLoadKid, oStoreTree, oField, oExtract, oNil, oSliceQ, oLoadRow, takeCells, TS.atRow, TS.ex, treeMode, AV.isOwn, TK.isSl, nilTk, nilsB, oLenQ, oLen, nodupB, treeOf, kidAbs, kidRows, TK.isCell, D.toL, oLoad, oStore, oMake, oIndexAddr, ↓reduceIte, reduceCtorEq, Nat.reduceBEq, Nat.reduceAdd, Nat.reduceMul, Nat.reduceLT, Nat.reduceSub, Nat.reduceLeDiff, Nat.reduceEqDiff, Nat.reduceBneDiff, Int.reduceToNat, decide_eq_true_eq, decide_eq_false_iff_not, beq_iff_eq, Int.toNat_natCast, loopK_normal, loopK_exit, loopK_ret, bne_self_eq_false]
        refine ⟨⟨_, rfl, hom⟩, ?_⟩
        exact ⟨_, [], rfl, ⟨⟨⟨rfl, rfl, rfl⟩, trivial⟩, trivial, by simp [rn, hpAt]⟩⟩
  · cases hg
theorem walk_PartsHear (A : Option Addr) (n c : Nat) (xs : List UInt8) (w : World) (h : Rd w w.heap.size A n (bv xs)) (hc : n ≤ c) :
    Calls Try.prog 4 #[.slice A n c] w fun e w' => e = .returned (.bool true) ∧ Below w.heap.size w w' :=
  lawPartsHear_ok.walk (vs := [_]) (arel_cons (.l _ _ _ (rep_of_rd h hc)) arel_nil) rfl ⟨xs, rfl⟩
end Go.Proofs.Ytegffkmakkccaaa
