import Derived.Test.YtegffkmakkccaaaHa
import Derived.Test.YtegffkmakkccaaaHm
import Derived.Test.YtegffkmakkccaaaXe
namespace Go.Proofs.Ytegffkmakkccaaa
open Go.RowKit
set_option linter.unusedSimpArgs false
set_option linter.unusedVariables false
def selP (xs : List UInt8) (C : List Pk) (q : Int) : Nat → List Pk
  | 0 => []
  | k + 1 => if 0 < pickV xs (q + (k : Int)) 3 ∨ ((selP xs C q k).length = 0 ∧ k + 1 = C.length) then selP xs C q k ++ [C.getD k pk0] else selP xs C q k
theorem selP_len (xs : List UInt8) (C : List Pk) (q : Int) : ∀ k, (selP xs C q k).length ≤ k
  | 0 => Nat.le_refl _
  | k + 1 => by
    have := selP_len xs C q k
    rw [selP]
    split
    · rw [List.length_append]; simp; omega
    · omega
theorem selP_mem (xs : List UInt8) (C : List Pk) (q : Int) : ∀ k, k ≤ C.length → ∀ y ∈ selP xs C q k, y ∈ C
  | 0, _, y, hy => by cases hy
  | k + 1, hk, y, hy => by
    rw [selP] at hy
    split at hy
    · rcases List.mem_append.1 hy with h | h
      · exact selP_mem xs C q k (by omega) y h
      · rw [List.mem_singleton.1 h, List.getD_eq_getElem?_getD, List.getElem?_eq_getElem (by omega)]
        exact List.getElem_mem _
    · exact selP_mem xs C q k (by omega) y hy
theorem selP_pos (xs : List UInt8) (C : List Pk) (q : Int) (h : 0 < C.length) : 0 < (selP xs C q C.length).length := by
  obtain ⟨k, hk⟩ : ∃ k, C.length = k + 1 := ⟨C.length - 1, by omega⟩
  rw [hk, selP]
  split
  · rw [List.length_append]; simp
  · rename_i hn
    rw [hk] at hn
    by_cases h0 : (selP xs C q k).length = 0
    · exact absurd (.inr ⟨h0, rfl⟩) hn
    · omega
def dcC (xs : List UInt8) (p : Int) : List Pk := cutL (pvK (lnV xs p)) (1 + pickV xs (lnV xs p).q 6)
theorem dcB (xs : List UInt8) (p : Int) (hp : p < 10000000000) : cutB (pvK (lnV xs p)) (1 + pickV xs (lnV xs p).q 6) = true := by
  have h1 := lnV_ok xs p (by omega)
  have h2 := lnV_q xs p (by omega)
  have k0 := pickV_nonneg xs (lnV xs p).q 6 (by omega)
  have k1 := pickV_lt xs (lnV xs p).q 6 (by omega)
  obtain ⟨n, hn⟩ : ∃ n : Nat, 1 + pickV xs (lnV xs p).q 6 = (n : Int) := ⟨(1 + pickV xs (lnV xs p).q 6).toNat, by omega⟩
  rw [hn, cutB, h1, Int.toNat_natCast, decide_eq_true (p := 1 ≤ (n : Int) ∧ (n : Int) ≤ 48) (by omega)]
  have hd : ((pvK (lnV xs p)).d.length - 1) / n * n ≤ (pvK (lnV xs p)).d.length - 1 := Nat.div_mul_le_self _ _
  have hdl : (pvK (lnV xs p)).d.length ≤ 21 := h2.2.2.2
  have ha : (pvK (lnV xs p)).a = 0 := rfl
  have hu : (pvK (lnV xs p)).u = false := rfl
  rw [hu, ha, decide_eq_true (p := (0 : Int) + ((((pvK (lnV xs p)).d.length - 1) / n * n : Nat) : Int) ≤ 255) (by omega)]
  simp
theorem cut_pos {x : Pk} {l : Int} (h : cutB x l = true) : 0 < (cutL x l).length := by
  obtain ⟨-, h2, ⟨h3, e⟩ | ⟨h3, h4, h5, e⟩⟩ := cut_cases h
  · rw [e]; simp
  · rw [e, piecesK_len]
    have := (pieceN_lt (n := x.d.length) (l := l.toNat) (k := 0) (by omega)).1 (by omega)
    exact this
theorem dcC_bd (xs : List UInt8) (p : Int) (hp : p < 10000000000) : (0 < (dcC xs p).length ∧ (dcC xs p).length ≤ 48) ∧ ∀ y ∈ dcC xs p, y.d.length ≤ 48 :=
  ⟨⟨cut_pos (dcB xs p hp), (cut_len _ _).1⟩, (cut_len _ _).2⟩
structure PtW where
  ps : List Pk
  u : Int
  q : Int
def dpS (xs : List UInt8) (p : Int) : List Pk := selP xs (dcC xs p) ((lnV xs p).q + 1 + 1) (dcC xs p).length
def dpQ (xs : List UInt8) (p : Int) : Int := (lnV xs p).q + 1 + 1 + ((dcC xs p).length : Int)
def dpU (xs : List UInt8) (p : Int) : Int := pickV xs ((lnV xs p).q + 1) 40
def dpE (xs : List UInt8) (S : List Pk) (u x : Int) : PtW :=
  if pickV xs x 4 = 0 then ⟨{ S.getD 0 pk0 with a := pickV xs (x + 1) 9 } :: S.drop 1, u, x + 1 + 1⟩
  else if pickV xs x 4 = 1 then ⟨{ S.getD 0 pk0 with m := false } :: S.drop 1, u, x + 1⟩
  else if pickV xs x 4 = 2 then ⟨S ++ [S.getD 0 pk0], u, x + 1⟩
  else ⟨[], u, x + 1⟩
def dpV (xs : List UInt8) (p n : Int) : PtW :=
  if (decide (0 < n) && pickV xs (dpQ xs p) n == n - 1) = true then dpE xs (dpS xs p) (dpU xs p) (dpQ xs p + oneIf n) else ⟨dpS xs p, dpU xs p, dpQ xs p + oneIf n⟩
theorem dpS_bd (xs : List UInt8) (p : Int) (hp : p < 10000000000) : (0 < (dpS xs p).length ∧ (dpS xs p).length ≤ 48) ∧ ∀ y ∈ dpS xs p, y.d.length ≤ 48 := by
  have h := dcC_bd xs p hp
  have h1 := selP_len xs (dcC xs p) ((lnV xs p).q + 1 + 1) (dcC xs p).length
  have h2 := selP_pos xs (dcC xs p) ((lnV xs p).q + 1 + 1) h.1.1
  exact ⟨⟨h2, by unfold dpS; omega⟩, fun y hy => h.2 y (selP_mem xs _ _ _ (Nat.le_refl _) y hy)⟩
theorem dpV_bd (xs : List UInt8) (p n : Int) (hp : p < 10000000000) : (p ≤ (dpV xs p n).q ∧ (dpV xs p n).q < p + 200) ∧ (dpV xs p n).ps.length ≤ 49 ∧ ∀ y ∈ (dpV xs p n).ps, y.d.length ≤ 48 := by
  have h := dpS_bd xs p hp
  have hc := dcC_bd xs p hp
  have h2 := lnV_q xs p (by omega)
  have h3 := oneIf_le n
  have h4 : dpQ xs p = (lnV xs p).q + 1 + 1 + ((dcC xs p).length : Int) := rfl
  have h0 : (dpS xs p).getD 0 pk0 ∈ dpS xs p := by
    rw [List.getD_eq_getElem?_getD, List.getElem?_eq_getElem h.1.1]
    exact List.getElem_mem _
  have hd : ∀ y ∈ (dpS xs p).drop 1, y.d.length ≤ 48 := fun y hy => h.2 y (List.mem_of_mem_drop hy)
  unfold dpV dpE
  repeat' split
  all_goals (refine ⟨⟨by dsimp only; omega, by dsimp only; omega⟩, ?_, fun y hy => ?_⟩)
  · simp only [List.length_cons, List.length_drop]; omega
  · rcases List.mem_cons.1 hy with rfl | hy
    · have := h.2 _ h0
      exact this
    · exact hd y hy
  · simp only [List.length_cons, List.length_drop]; omega
  · rcases List.mem_cons.1 hy with rfl | hy
    · have := h.2 _ h0
      exact this
    · exact hd y hy
  · simp only [List.length_append, List.length_cons, List.length_nil]; omega
  · rcases List.mem_append.1 hy with hy | hy
    · exact h.2 y hy
    · rw [List.mem_singleton.1 hy]
      exact h.2 _ h0
  · simp
  · cases hy
  · exact Nat.le_succ_of_le h.1.2
  · exact h.2 y hy
def g_part : OC := fun args B0 => match args, B0 with
  | [.ptr r o, .v (.int .i64 n)], [.var T [.l 1 rows, .v (.int .i64 p)]] => some (T = 148 ∧ r = 0 ∧ o = 0 ∧ (∃ xs, rows = rowsOfBytes xs ∧ xs.length ≤ 2000) ∧ 0 ≤ p ∧ p < 1000000000 ∧ 0 ≤ n ∧ n ≤ 1000000, .agg [.l 9 (pRows (dpV (bytesOfRows rows) p n).ps), .v (.int .i64 (dpV (bytesOfRows rows) p n).u)], [.var T [.l 1 rows, .v (.int .i64 (dpV (bytesOfRows rows) p n).q)]], [])
  | _, _ => none
def hpt : List (FuncId × Abs) := [(112, ownAbs g_long), (58, ownAbs g_pick), (115, ownAbs g_odd), (113, ownAbs (ocOf g_sPacketCut))]
theorem hpt_ok : ∀ p ∈ hpt, CallOk Try.prog p.1 p.2 := by
  intro p hp
  simp only [hpt, List.mem_cons, List.not_mem_nil, or_false] at hp
  rcases hp with rfl | rfl | rfl | rfl
  · exact long_ok.call
  · exact pick_ok.call
  · exact odd_ok.call
  · exact specPacketCut_ok.call
set_option maxHeartbeats 4000000 in
set_option maxRecDepth 100000 in
theorem l20Part_ok : OwnOk Try.prog 116 g_part := by
  refine OwnOk.of_vcL (G := hpt) hpt_ok mixed Try.func116 (by kernel_rfl) rfl ?_
  intro args B0 cnd r B1 bs hg hc hlive
  unfold g_part at hg
  split at hg
  · rename_i r o n T rows p
    cases hg
    obtain ⟨rfl, rfl, rfl, ⟨xs, rfl, hl⟩, hp0, hp1, hn0, hn1⟩ := hc
    rw [bytesOf_rows]
    have h2 := lnV_q xs p (by omega)
    have hok := dcB xs p (by omega)
    have hcb := dcC_bd xs p (by omega)
    have hsb := dpS_bd xs p (by omega)
    have hQ : dpQ xs p = (lnV xs p).q + 1 + 1 + ((dcC xs p).length : Int) := rfl
    have hSS : dpS xs p = selP xs (dcC xs p) ((lnV xs p).q + 1 + 1) (dcC xs p).length := rfl
    have hU : dpU xs p = pickV xs ((lnV xs p).q + 1) 40 := rfl
    have hVV : dpV xs p n = if (decide (0 < n) && pickV xs (dpQ xs p) n == n - 1) = true then dpE xs (dpS xs p) (dpU xs p) (dpQ xs p + oneIf n) else ⟨dpS xs p, dpU xs p, dpQ xs p + oneIf n⟩ := rfl
    have hC' : dcC xs p = cutL (pvK (lnV xs p)) (1 + pickV xs (lnV xs p).q 6) := rfl
    obtain ⟨V, hV⟩ : ∃ V, lnV xs p = V := ⟨_, rfl⟩
    obtain ⟨C, hC⟩ : ∃ C, dcC xs p = C := ⟨_, rfl⟩
    obtain ⟨R, hR⟩ : ∃ R, dpV xs p n = R := ⟨_, rfl⟩
    have a0 := pickV_nonneg xs V.q 6 (by rw [← hV]; omega)
    have a1 := pickV_lt xs V.q 6 (by omega)
    rw [hR] at hVV ⊢
    rw [hC, hV] at hQ hSS hC'
    rw [hV] at h2 hU hok
    rw [hC] at hcb
    have hX : (⟨V.f, V.t, V.pr, V.h, V.i, V.a, V.m, V.u, V.d⟩ : Pk) = pvK V := rfl
    have hC'' := hC'.symm
    have w1 : IntKind.i64.wrap (1 + pickV xs V.q 6) = 1 + pickV xs V.q 6 := wrap_id (by omega) (by omega)
    obtain ⟨q, hq⟩ : ∃ q, V.q + 1 + 1 = q := ⟨_, rfl⟩
    obtain ⟨u, hu⟩ : ∃ u, pickV xs (V.q + 1) 40 = u := ⟨_, rfl⟩
    rw [hq] at hQ hSS
    rw [hu] at hU
    obtain ⟨e, he⟩ : ∃ e, e = oneIf n := ⟨_, rfl⟩
    have be := oneIf_le n
    rw [← he] at be hVV
    have he' : (if 0 < n then (1 : Int) else 0) = e := he.symm
    rw [hSS, hU, hQ] at hVV
    refine ⟨⟨by simp [likeBs, likeB], rfl, fun b hb => by simp at hb; subst hb; exact ⟨_, _, rfl, rfl⟩, by simp [AV.ids, AV.ids.idsL]⟩, _, rfl, fun w Z s vs h => h, ?_⟩
    clear hlive
    have hx : (∃ ys, rowsOfBytes xs = rowsOfBytes ys ∧ ys.length ≤ 2000) = True := eq_true ⟨xs, rfl, hl⟩
    simp (maxSteps := 3000000) only [Try.f116, hpt, g_long, g_pick, g_odd, ocOf, g_sPacketCut, hV, hX, hC'', w1, hq, hu, bytesOf_rows, rowsOf_len, pRows_len, hx, doneL_ret, doneL_normal, tYs, evL, implies_true, oMin, oCopy, oBin, oUn, oLoadKid, oStoreTree, oField, oExtract, oNil, oSliceQ, oLoadRow, takeCells, TS.atRow, TS.ex, treeMode, AV.isOwn, TK.isSl, nilTk, nilsB, oLenQ, oLen, nodupB, treeOf, kidAbs, kidRows, TK.isCell, D.toL, oLoad, oStore, oMake, oIndexAddr, ↓reduceIte, reduceCtorEq, Nat.reduceBEq, Nat.reduceAdd, Nat.reduceMul, Nat.reduceLT, Nat.reduceSub, Nat.reduceLeDiff, Nat.reduceEqDiff, Nat.reduceBneDiff, Int.reduceToNat, decide_eq_true_eq, decide_eq_false_iff_not, beq_iff_eq, Int.toNat_natCast, loopK_normal, loopK_exit, loopK_ret]
    (repeat (refine And.intro ?_ ?_; focus (((repeat' apply And.intro) <;> first | exact rowsOf_w _ | omega | (simp only [List.length_append, rowsOf_len, List.length_cons, List.length_nil, marks_len, List.length_take, List.length_drop, List.length_set]; omega) | exact ⟨_, rfl⟩ | (refine ⟨_, rfl, ?_⟩; omega) | (refine ⟨_, rfl, ?_⟩; simp only [List.length_append, rowsOf_len, List.length_cons, List.length_nil, marks_len, List.length_take, List.length_drop, List.length_set]; omega) | kernel_rfl | (simp; done)); done)))
    refine e_loop _ _ _ _ _ _ _ _ (fun k : Nat => [.ptr 0 0, .v (.int .i64 n), .any, .any, .ptr 1 0, .l 9 (pRows C), .any, .ptr 2 0, .v (.int .i64 (k : Int))] ++ List.replicate (Try.f116.ntmps - 9) .any) (fun k => [(0, .var 148 [.l 1 (rowsOfBytes xs), .v (.int .i64 (q + (k : Int)))]), (1, .var 38 [.v (.slice none 0 0), .v (.int .i64 0)]), (2, .var 38 [.own 3, .v (.int .i64 u)]), (3, .sl 29 9 (pRows (selP xs C q k)))]) (fun k => k ≤ C.length) (fun k => C.length - k) 4 (fun k => by simp) ?_ fun k hk' => ?_
    · exact ⟨0, [(0, some 0), (1, some _), (2, some _), (3, none)], Nat.zero_le _, ⟨⟨⟨rfl, rfl, rfl⟩, ⟨rfl, rfl, rfl⟩, trivial, trivial, ⟨rfl, rfl, rfl⟩, ⟨rfl, rfl, rfl⟩, trivial, ⟨rfl, rfl, rfl⟩, ⟨rfl, rfl, rfl⟩, fitT_rep _ _ rfl⟩, ⟨.inl (by rw [show q + ((0 : Nat) : Int) = q from by omega]; rfl), rfl, rfl, rfl, .inl rfl, rfl, rfl, rfl, .inl rfl, rfl, rfl, rfl, ⟨by omega, rfl⟩, rfl, rfl, rfl, trivial⟩, by simp [rn, hpAt]⟩, by simp [keepIds, rn]⟩
    have w2 : IntKind.i64.wrap ((k : Int) + 1) = ((k + 1 : Nat) : Int) := by rw [wrap_id] <;> omega
    have hsl := selP_len xs C q k
    have hqk : q + (k : Int) + 1 = q + ((k + 1 : Nat) : Int) := by omega
    have wc : IntKind.i64.wrap ((C.length : Int) - 1) = (C.length : Int) - 1 := wrap_id (by omega) (by omega)
    by_cases hk : k < C.length
    · have hrow := pRows_get C k hk
      have hlt : ((k : Int) < (C.length : Int)) = True := eq_true (by omega)
      have h0 : (0 ≤ (k : Int)) = True := eq_true (by omega)
      have e1 : pRows (selP xs C q k) ++ [[D.v (.int .i64 C[k].f), D.v (.int .i64 C[k].t), D.v (.int .i64 C[k].p), D.v (.int .i64 C[k].h), D.v (.int .i64 C[k].i), D.v (.int .i64 C[k].a), D.v (.bool C[k].m), D.v (.bool C[k].u), D.l 1 (rowsOfBytes C[k].d)]] = pRows (selP xs C q k ++ [C[k]]) := pRows_app _ [C[k]]
      have hsel : selP xs C q (k + 1) = if 0 < pickV xs (q + (k : Int)) 3 ∨ ((selP xs C q k).length = 0 ∧ k + 1 = C.length) then selP xs C q k ++ [C[k]] else selP xs C q k := by
        rw [selP, List.getD_eq_getElem?_getD, List.getElem?_eq_getElem hk]; rfl
      simp (maxSteps := 3000000) only [Try.f116, hpt, g_long, g_pick, g_odd, ocOf, g_sPacketCut, hrow, hlt, h0, e1, w2, wc, hqk, D.toI, dB, D.toB, D.toL, pRow, bytesOf_rows, rowsOf_len, pRows_len, hx, doneL_ret, doneL_normal, tYs, evL, implies_true, oMin, oCopy, oBin, oUn, oLoadKid, oStoreTree, oField, oExtract, oNil, oSliceQ, oLoadRow, takeCells, TS.atRow, TS.ex, treeMode, AV.isOwn, TK.isSl, nilTk, nilsB, oLenQ, oLen, nodupB, treeOf, kidAbs, kidRows, TK.isCell, D.toL, oLoad, oStore, oMake, oIndexAddr, ↓reduceIte, reduceCtorEq, Nat.reduceBEq, Nat.reduceAdd, Nat.reduceMul, Nat.reduceLT, Nat.reduceSub, Nat.reduceLeDiff, Nat.reduceEqDiff, Nat.reduceBneDiff, Int.reduceToNat, decide_eq_true_eq, decide_eq_false_iff_not, beq_iff_eq, Int.toNat_natCast, loopK_normal, loopK_exit, loopK_ret]
      refine ⟨by omega, ?_⟩
      by_cases g1 : pickV xs (q + (k : Int)) 3 > 0
      · rw [if_neg (by omega)]
        have hs : selP xs C q (k + 1) = selP xs C q k ++ [C[k]] := by rw [hsel, if_pos (.inl g1)]
        refine ⟨⟨by omega, by omega, by simp⟩, by kernel_rfl, ?_⟩
        rw [← hs]
        exact ⟨k + 1, [(0, some 0), (1, some _), (2, some _), (3, some _)], by omega, by omega, ⟨⟨⟨rfl, rfl, rfl⟩, ⟨rfl, rfl, rfl⟩, trivial, trivial, ⟨rfl, rfl, rfl⟩, ⟨rfl, rfl, rfl⟩, trivial, ⟨rfl, rfl, rfl⟩, ⟨rfl, rfl, rfl⟩, fitT_rep _ _ rfl⟩, ⟨.inl rfl, rfl, rfl, rfl, .inl rfl, rfl, rfl, rfl, .inl rfl, rfl, rfl, rfl, .inl rfl, rfl, rfl, rfl, trivial⟩, by simp [rn, hpAt]⟩, by simp [keepIds, rn]⟩
      · rw [if_pos g1]
        by_cases g2 : ((selP xs C q k).length : Int) = 0
        · rw [if_pos g2]
          by_cases g3 : (k : Int) = (C.length : Int) - 1
          · rw [if_pos g3]
            have hs : selP xs C q (k + 1) = selP xs C q k ++ [C[k]] := by rw [hsel, if_pos (.inr ⟨by omega, by omega⟩)]
            refine ⟨⟨by omega, by omega, by simp⟩, by kernel_rfl, ?_⟩
            rw [← hs]
            exact ⟨k + 1, [(0, some 0), (1, some _), (2, some _), (3, some _)], by omega, by omega, ⟨⟨⟨rfl, rfl, rfl⟩, ⟨rfl, rfl, rfl⟩, trivial, trivial, ⟨rfl, rfl, rfl⟩, ⟨rfl, rfl, rfl⟩, trivial, ⟨rfl, rfl, rfl⟩, ⟨rfl, rfl, rfl⟩, fitT_rep _ _ rfl⟩, ⟨.inl rfl, rfl, rfl, rfl, .inl rfl, rfl, rfl, rfl, .inl rfl, rfl, rfl, rfl, .inl rfl, rfl, rfl, rfl, trivial⟩, by simp [rn, hpAt]⟩, by simp [keepIds, rn]⟩
          · rw [if_neg g3]
            have hs : selP xs C q (k + 1) = selP xs C q k := by rw [hsel, if_neg (by omega)]
            rw [← hs]
            exact ⟨k + 1, [(0, some 0), (1, some _), (2, some _), (3, some _)], by omega, by omega, ⟨⟨⟨rfl, rfl, rfl⟩, ⟨rfl, rfl, rfl⟩, trivial, trivial, ⟨rfl, rfl, rfl⟩, ⟨rfl, rfl, rfl⟩, trivial, ⟨rfl, rfl, rfl⟩, ⟨rfl, rfl, rfl⟩, fitT_rep _ _ rfl⟩, ⟨.inl rfl, rfl, rfl, rfl, .inl rfl, rfl, rfl, rfl, .inl rfl, rfl, rfl, rfl, .inl rfl, rfl, rfl, rfl, trivial⟩, by simp [rn, hpAt]⟩, by simp [keepIds, rn]⟩
        · rw [if_neg g2]
          have hs : selP xs C q (k + 1) = selP xs C q k := by rw [hsel, if_neg (by omega)]
          rw [← hs]
          exact ⟨k + 1, [(0, some 0), (1, some _), (2, some _), (3, some _)], by omega, by omega, ⟨⟨⟨rfl, rfl, rfl⟩, ⟨rfl, rfl, rfl⟩, trivial, trivial, ⟨rfl, rfl, rfl⟩, ⟨rfl, rfl, rfl⟩, trivial, ⟨rfl, rfl, rfl⟩, ⟨rfl, rfl, rfl⟩, fitT_rep _ _ rfl⟩, ⟨.inl rfl, rfl, rfl, rfl, .inl rfl, rfl, rfl, rfl, .inl rfl, rfl, rfl, rfl, .inl rfl, rfl, rfl, rfl, trivial⟩, by simp [rn, hpAt]⟩, by simp [keepIds, rn]⟩
    · have hlt : ((k : Int) < (C.length : Int)) = False := eq_false (by omega)
      obtain rfl : k = C.length := by omega
      obtain ⟨S, hS⟩ : ∃ S, selP xs C q C.length = S := ⟨_, rfl⟩
      rw [hSS, hS] at hsb
      rw [hS] at hVV
      obtain ⟨w, hw⟩ : ∃ w, q + (C.length : Int) = w := ⟨_, rfl⟩
      rw [hw] at hVV
      have hS0 : 0 < S.length := hsb.1.1
      have hS48 := hsb.1.2
      have hrow0 := pRows_get S 0 hS0
      have hg0 : S.getD 0 pk0 = S[0] := by rw [List.getD_eq_getElem?_getD, List.getElem?_eq_getElem hS0]; rfl
      have hset : ∀ (f t p h i a : Int) (m u : Bool) (d : List UInt8), (pRows S).set 0 [D.v (.int .i64 f), D.v (.int .i64 t), D.v (.int .i64 p), D.v (.int .i64 h), D.v (.int .i64 i), D.v (.int .i64 a), D.v (.bool m), D.v (.bool u), D.l 1 (rowsOfBytes d)] = pRows (⟨f, t, p, h, i, a, m, u, d⟩ :: S.drop 1) := fun f t p h i a m u d => by
        match S, hS0 with
        | y :: tl, _ => rfl
      have eqS : pRows S ++ [[D.v (.int .i64 S[0].f), D.v (.int .i64 S[0].t), D.v (.int .i64 S[0].p), D.v (.int .i64 S[0].h), D.v (.int .i64 S[0].i), D.v (.int .i64 S[0].a), D.v (.bool S[0].m), D.v (.bool S[0].u), D.l 1 (rowsOfBytes S[0].d)]] = pRows (S ++ [S[0]]) := pRows_app _ [S[0]]
      have h0 : ((0 : Int) < (S.length : Int)) = True := eq_true (by omega)
      simp (maxSteps := 3000000) only [Try.f116, hpt, g_long, g_pick, g_odd, ocOf, g_sPacketCut, hlt, he', hS, hw, h0, hrow0, eqS, hset, D.toI, dB, D.toB, D.toL, pRow, List.take_succ_cons, List.take_zero, List.drop_succ_cons, List.drop_zero, List.cons_append, List.nil_append, bytesOf_rows, rowsOf_len, pRows_len, hx, doneL_ret, doneL_normal, tYs, evL, implies_true, oMin, oCopy, oBin, oUn, oLoadKid, oStoreTree, oField, oExtract, oNil, oSliceQ, oLoadRow, takeCells, TS.atRow, TS.ex, treeMode, AV.isOwn, TK.isSl, nilTk, nilsB, oLenQ, oLen, nodupB, treeOf, kidAbs, kidRows, TK.isCell, D.toL, oLoad, oStore, oMake, oIndexAddr, ↓reduceIte, reduceCtorEq, Nat.reduceBEq, Nat.reduceAdd, Nat.reduceMul, Nat.reduceLT, Nat.reduceSub, Nat.reduceLeDiff, Nat.reduceEqDiff, Nat.reduceBneDiff, Int.reduceToNat, decide_eq_true_eq, decide_eq_false_iff_not, beq_iff_eq, Int.toNat_natCast, loopK_normal, loopK_exit, loopK_ret]
      refine ⟨by omega, ?_⟩
      rw [dpE, hg0] at hVV
      by_cases ho : (decide (0 < n) && pickV xs w n == n - 1) = true
      · rw [if_pos ho]
        rw [if_pos ho] at hVV
        refine ⟨by omega, ?_⟩
        by_cases g0 : pickV xs (w + e) 4 = 0
        · rw [if_pos g0]
          rw [if_pos g0] at hVV
          subst hVV
          repeat' first
            | refine And.intro (by omega) ?_
            | refine And.intro hS0 ?_
            | refine And.intro ⟨by omega, by omega, by simp⟩ ?_
            | refine And.intro (by kernel_rfl) ?_
          exact ⟨_, rfl, rfl, rfl⟩
        · rw [if_neg g0]
          rw [if_neg g0] at hVV
          by_cases g1 : pickV xs (w + e) 4 = 1
          · rw [if_pos g1]
            rw [if_pos g1] at hVV
            subst hVV
            repeat' first
              | refine And.intro (by omega) ?_
              | refine And.intro hS0 ?_
              | refine And.intro ⟨by omega, by omega, by simp⟩ ?_
              | refine And.intro (by kernel_rfl) ?_
            exact ⟨_, rfl, rfl, rfl⟩
          · rw [if_neg g1]
            rw [if_neg g1] at hVV
            by_cases g2 : pickV xs (w + e) 4 = 2
            · rw [if_pos g2]
              rw [if_pos g2] at hVV
              subst hVV
              repeat' first
                | refine And.intro (by omega) ?_
                | refine And.intro hS0 ?_
                | refine And.intro ⟨by omega, by omega, by simp⟩ ?_
                | refine And.intro (by kernel_rfl) ?_
              exact ⟨_, rfl, rfl, rfl⟩
            · rw [if_neg g2]
              rw [if_neg g2] at hVV
              subst hVV
              repeat' first
                | refine And.intro (by omega) ?_
                | refine And.intro hS0 ?_
                | refine And.intro ⟨by omega, by omega, by simp⟩ ?_
                | refine And.intro (by kernel_rfl) ?_
              exact ⟨_, rfl, rfl, rfl⟩
      · rw [if_neg ho]
        rw [if_neg ho] at hVV
        subst hVV
        exact ⟨_, rfl, rfl, rfl⟩
  · cases hg
end Go.Proofs.Ytegffkmakkccaaa
