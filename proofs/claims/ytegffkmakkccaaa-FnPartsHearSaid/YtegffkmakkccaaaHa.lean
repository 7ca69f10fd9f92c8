import Derived.Test.YtegffkmakkccaaaXi
import Derived.Test.YtegffkmakkccaaaXk
import Derived.Test.YtegffkmakkccaaaVi
namespace Go.Proofs.Ytegffkmakkccaaa
open Go.RowKit
set_option linter.unusedSimpArgs false
set_option linter.unusedVariables false
theorem OwnOk.narrow {P : Program} {f : FuncId} {g g' : OC} (C : OwnOk P f g) (h : ∀ args B0 c r B1 bs, g' args B0 = some (c, r, B1, bs) → c → ∃ c0, g args B0 = some (c0, r, B1, bs) ∧ c0) : OwnOk P f g' :=
  ⟨C.there, fun w F Z0 s0 args vs B0 c r B1 bs hH hargs hlive hg hc => by
    obtain ⟨c0, h1, h2⟩ := h args B0 c r B1 bs hg hc
    exact C.does w F Z0 s0 args vs B0 c0 r B1 bs hH hargs hlive h1 h2⟩
def g_samePackets : PC := fun args => match args with
  | [.l _ rows, .l _ rows'] => some (∃ ps, rows = pRows ps ∧ rows' = pRows ps ∧ ps.length ≤ 1048576, .v (.bool true), [])
  | _ => none
def g_samePart : PC := fun args => match args with
  | [.agg [.l _ rows, .v (.int .i64 u)], .agg [.l _ rows', .v (.int .i64 u')]] => some ((∃ ps, rows = pRows ps ∧ rows' = pRows ps ∧ ps.length ≤ 1048576) ∧ u = u', .v (.bool true), [])
  | _ => none
def g_sameParts : PC := fun args => match args with
  | [.l _ rows, .l _ rows'] => some (∃ l, rows = ptRows l ∧ rows' = ptRows l ∧ ptMid l, .v (.bool true), [])
  | _ => none
def hsp1 : List (FuncId × Abs) := [(17, pureAbs g_samePacket)]
theorem hsp1_ok : ∀ p ∈ hsp1, CallOk Try.prog p.1 p.2 := by
  intro p hp
  simp only [hsp1, List.mem_cons, List.not_mem_nil, or_false] at hp
  rcases hp with rfl
  · exact samePacket_ok.call
set_option maxRecDepth 100000 in
theorem samePackets_ok : PureOk Try.prog 37 g_samePackets := by
  refine PureOk.of_vc (G := hsp1) hsp1_ok mixed Try.func37 (by kernel_rfl) rfl ?_
  intro args cnd r bs hg hc
  unfold g_samePackets at hg
  split at hg
  · rename_i sz rows sz' rows'
    cases hg
    obtain ⟨ps, rfl, rfl, hn⟩ := hc
    refine ⟨⟨rfl, by simp, by simp [AV.ids, AV.ids.idsL]⟩, [.l 9 (pRows ps), .l 9 (pRows ps)], rfl, fun w vs h => CvL.ok (.cons (.l _ _ _ (pRows_w ps)) (.cons (.l _ _ _ (pRows_w ps)) .nil)) h, ?_⟩
    simp (maxSteps := 3000000) only [Try.f37, hsp1, pRows_len, bne_self_eq_false, Bool.false_eq_true, ↓reduceIte, tYs, evL, implies_true, oMin, oCopy, oBin, oUn, oLoadKid, oStoreTree, oField, oExtract, oNil, oSliceQ, oLoadRow, takeCells, TS.atRow, TS.ex, treeMode, AV.isOwn, TK.isSl, nilTk, nilsB, oLenQ, oLen, nodupB, treeOf, kidAbs, kidRows, TK.isCell, D.toL, oLoad, oStore, oMake, oIndexAddr, ↓reduceIte, reduceCtorEq, Nat.reduceBEq, Nat.reduceAdd, Nat.reduceMul, Nat.reduceLT, Nat.reduceSub, Nat.reduceLeDiff, Nat.reduceEqDiff, Nat.reduceBneDiff, Int.reduceToNat, decide_eq_true_eq, decide_eq_false_iff_not, beq_iff_eq, Int.toNat_natCast]
    refine e_loop _ _ _ _ _ _ _ _ (fun k : Nat => [.l 9 (pRows ps), .l 9 (pRows ps), .any, .any, .any, .v (.int .i64 (k : Int))] ++ List.replicate (Try.f37.ntmps - 6) .any) (fun k => []) (fun k => k ≤ ps.length) (fun k => ps.length - k) 0 (fun k => by simp) ?_ fun k hk' => ?_
    · exact ⟨0, [], Nat.zero_le _, ⟨⟨⟨rfl, rfl, rfl⟩, ⟨rfl, rfl, rfl⟩, trivial, trivial, trivial, ⟨rfl, rfl, rfl⟩, fitT_rep _ _ rfl⟩, trivial, by simp [rn, hpAt]⟩, by simp [keepIds]⟩
    have w2 : IntKind.i64.wrap ((k : Int) + 1) = ((k + 1 : Nat) : Int) := by rw [wrap_id] <;> omega
    by_cases hk : k < ps.length
    · have hrow := pRows_get ps k hk
      have hlt : ((k : Int) < (ps.length : Int)) = True := eq_true (by omega)
      have h0 : (0 ≤ (k : Int)) = True := eq_true (by omega)
      simp (maxSteps := 3000000) only [Try.f37, hsp1, pRows_len, rowsOf_len, bytesOf_rows, g_samePacket, hrow, hlt, h0, D.toI, dB, D.toB, D.toL, pRow, tYs, evL, implies_true, oMin, oCopy, oBin, oUn, oLoadKid, oStoreTree, oField, oExtract, oNil, oSliceQ, oLoadRow, takeCells, TS.atRow, TS.ex, treeMode, AV.isOwn, TK.isSl, nilTk, nilsB, oLenQ, oLen, nodupB, treeOf, kidAbs, kidRows, TK.isCell, D.toL, oLoad, oStore, oMake, oIndexAddr, ↓reduceIte, reduceCtorEq, Nat.reduceBEq, Nat.reduceAdd, Nat.reduceMul, Nat.reduceLT, Nat.reduceSub, Nat.reduceLeDiff, Nat.reduceEqDiff, Nat.reduceBneDiff, Int.reduceToNat, decide_eq_true_eq, decide_eq_false_iff_not, beq_iff_eq, Int.toNat_natCast, loopK_normal, loopK_exit, loopK_ret, w2, true_and, and_true, and_self, decide_true, Bool.not_true, Bool.false_eq_true, ↓reduceIte]
      exact ⟨⟨_, rfl⟩, by kernel_rfl, k + 1, [], by omega, by omega, ⟨⟨⟨rfl, rfl, rfl⟩, ⟨rfl, rfl, rfl⟩, trivial, trivial, trivial, ⟨rfl, rfl, rfl⟩, fitT_rep _ _ rfl⟩, trivial, by simp [rn, hpAt]⟩, by simp [keepIds]⟩
    · have hlt : ((k : Int) < (ps.length : Int)) = False := eq_false (by omega)
      simp (maxSteps := 3000000) only [Try.f37, hsp1, pRows_len, hlt, tYs, evL, implies_true, oMin, oCopy, oBin, oUn, oLoadKid, oStoreTree, oField, oExtract, oNil, oSliceQ, oLoadRow, takeCells, TS.atRow, TS.ex, treeMode, AV.isOwn, TK.isSl, nilTk, nilsB, oLenQ, oLen, nodupB, treeOf, kidAbs, kidRows, TK.isCell, D.toL, oLoad, oStore, oMake, oIndexAddr, ↓reduceIte, reduceCtorEq, Nat.reduceBEq, Nat.reduceAdd, Nat.reduceMul, Nat.reduceLT, Nat.reduceSub, Nat.reduceLeDiff, Nat.reduceEqDiff, Nat.reduceBneDiff, Int.reduceToNat, decide_eq_true_eq, decide_eq_false_iff_not, beq_iff_eq, Int.toNat_natCast, loopK_normal, loopK_exit, loopK_ret, w2]
      exact ⟨_, [], rfl, ⟨⟨⟨rfl, rfl, rfl⟩, trivial⟩, trivial, by simp [rn, hpAt]⟩⟩
  · cases hg
def hsp2 : List (FuncId × Abs) := [(37, pureAbs g_samePackets)]
theorem hsp2_ok : ∀ p ∈ hsp2, CallOk Try.prog p.1 p.2 := by
  intro p hp
  simp only [hsp2, List.mem_cons, List.not_mem_nil, or_false] at hp
  rcases hp with rfl
  · exact samePackets_ok.call
set_option maxRecDepth 100000 in
theorem samePart_ok : PureOk Try.prog 70 g_samePart := by
  refine PureOk.of_vc (G := hsp2) hsp2_ok mixed Try.func70 (by kernel_rfl) rfl ?_
  intro args cnd r bs hg hc
  unfold g_samePart at hg
  split at hg
  · rename_i sz rows u sz' rows' u'
    cases hg
    obtain ⟨⟨ps, rfl, rfl, hn⟩, rfl⟩ := hc
    refine ⟨⟨rfl, by simp, by simp [AV.ids, AV.ids.idsL]⟩, [.agg [.l 9 (pRows ps), .v (.int .i64 u)], .agg [.l 9 (pRows ps), .v (.int .i64 u)]], rfl, fun w vs h => CvL.ok (.cons (.cons (.l _ _ _ (pRows_w ps)) (.cons (.refl _) .nil)) (.cons (.cons (.l _ _ _ (pRows_w ps)) (.cons (.refl _) .nil)) .nil)) h, ?_⟩
    simp (maxSteps := 3000000) only [Try.f70, hsp2, g_samePackets, ↓reduceIte, tYs, evL, implies_true, oMin, oCopy, oBin, oUn, oLoadKid, oStoreTree, oField, oExtract, oNil, oSliceQ, oLoadRow, takeCells, TS.atRow, TS.ex, treeMode, AV.isOwn, TK.isSl, nilTk, nilsB, oLenQ, oLen, nodupB, treeOf, kidAbs, kidRows, TK.isCell, D.toL, oLoad, oStore, oMake, oIndexAddr, ↓reduceIte, reduceCtorEq, Nat.reduceBEq, Nat.reduceAdd, Nat.reduceMul, Nat.reduceLT, Nat.reduceSub, Nat.reduceLeDiff, Nat.reduceEqDiff, Nat.reduceBneDiff, Int.reduceToNat, decide_eq_true_eq, decide_eq_false_iff_not, beq_iff_eq, Int.toNat_natCast]
    refine ⟨⟨ps, rfl, rfl, hn⟩, ?_⟩
    exact ⟨_, [], rfl, ⟨⟨⟨rfl, rfl, rfl⟩, trivial⟩, trivial, by simp [rn, hpAt]⟩⟩
  · cases hg
def hsp3 : List (FuncId × Abs) := [(70, pureAbs g_samePart)]
theorem hsp3_ok : ∀ p ∈ hsp3, CallOk Try.prog p.1 p.2 := by
  intro p hp
  simp only [hsp3, List.mem_cons, List.not_mem_nil, or_false] at hp
  rcases hp with rfl
  · exact samePart_ok.call
set_option maxRecDepth 100000 in
theorem sameParts_ok : PureOk Try.prog 18 g_sameParts := by
  refine PureOk.of_vc (G := hsp3) hsp3_ok mixed Try.func18 (by kernel_rfl) rfl ?_
  intro args cnd r bs hg hc
  unfold g_sameParts at hg
  split at hg
  · rename_i sz rows sz' rows'
    cases hg
    obtain ⟨l, rfl, rfl, hn⟩ := hc
    have hn1 := hn.1
    refine ⟨⟨rfl, by simp, by simp [AV.ids, AV.ids.idsL]⟩, [.l 2 (ptRows l), .l 2 (ptRows l)], rfl, fun w vs h => CvL.ok (.cons (.l _ _ _ (ptRows_w l)) (.cons (.l _ _ _ (ptRows_w l)) .nil)) h, ?_⟩
    simp (maxSteps := 3000000) only [Try.f18, hsp3, ptRows_len, bne_self_eq_false, Bool.false_eq_true, ↓reduceIte, tYs, evL, implies_true, oMin, oCopy, oBin, oUn, oLoadKid, oStoreTree, oField, oExtract, oNil, oSliceQ, oLoadRow, takeCells, TS.atRow, TS.ex, treeMode, AV.isOwn, TK.isSl, nilTk, nilsB, oLenQ, oLen, nodupB, treeOf, kidAbs, kidRows, TK.isCell, D.toL, oLoad, oStore, oMake, oIndexAddr, ↓reduceIte, reduceCtorEq, Nat.reduceBEq, Nat.reduceAdd, Nat.reduceMul, Nat.reduceLT, Nat.reduceSub, Nat.reduceLeDiff, Nat.reduceEqDiff, Nat.reduceBneDiff, Int.reduceToNat, decide_eq_true_eq, decide_eq_false_iff_not, beq_iff_eq, Int.toNat_natCast]
    refine e_loop _ _ _ _ _ _ _ _ (fun k : Nat => [.l 2 (ptRows l), .l 2 (ptRows l), .any, .any, .any, .v (.int .i64 (k : Int))] ++ List.replicate (Try.f18.ntmps - 6) .any) (fun k => []) (fun k => k ≤ l.length) (fun k => l.length - k) 0 (fun k => by simp) ?_ fun k hk' => ?_
    · exact ⟨0, [], Nat.zero_le _, ⟨⟨⟨rfl, rfl, rfl⟩, ⟨rfl, rfl, rfl⟩, trivial, trivial, trivial, ⟨rfl, rfl, rfl⟩, fitT_rep _ _ rfl⟩, trivial, by simp [rn, hpAt]⟩, by simp [keepIds]⟩
    have w2 : IntKind.i64.wrap ((k : Int) + 1) = ((k + 1 : Nat) : Int) := by rw [wrap_id] <;> omega
    by_cases hk : k < l.length
    · have hrow := ptRows_get l k hk
      have hlt : ((k : Int) < (l.length : Int)) = True := eq_true (by omega)
      have h0 : (0 ≤ (k : Int)) = True := eq_true (by omega)
      have hx := (hn.2 l[k] (List.getElem_mem hk)).1
      simp (maxSteps := 3000000) only [Try.f18, hsp3, ptRows_len, g_samePart, hrow, hlt, h0, D.toI, dB, D.toB, D.toL, ptRow, tYs, evL, implies_true, oMin, oCopy, oBin, oUn, oLoadKid, oStoreTree, oField, oExtract, oNil, oSliceQ, oLoadRow, takeCells, TS.atRow, TS.ex, treeMode, AV.isOwn, TK.isSl, nilTk, nilsB, oLenQ, oLen, nodupB, treeOf, kidAbs, kidRows, TK.isCell, D.toL, oLoad, oStore, oMake, oIndexAddr, ↓reduceIte, reduceCtorEq, Nat.reduceBEq, Nat.reduceAdd, Nat.reduceMul, Nat.reduceLT, Nat.reduceSub, Nat.reduceLeDiff, Nat.reduceEqDiff, Nat.reduceBneDiff, Int.reduceToNat, decide_eq_true_eq, decide_eq_false_iff_not, beq_iff_eq, Int.toNat_natCast, loopK_normal, loopK_exit, loopK_ret, w2, Bool.not_true, Bool.false_eq_true, ↓reduceIte]
      exact ⟨⟨_, rfl, rfl, hx⟩, by kernel_rfl, k + 1, [], by omega, by omega, ⟨⟨⟨rfl, rfl, rfl⟩, ⟨rfl, rfl, rfl⟩, trivial, trivial, trivial, ⟨rfl, rfl, rfl⟩, fitT_rep _ _ rfl⟩, trivial, by simp [rn, hpAt]⟩, by simp [keepIds]⟩
    · have hlt : ((k : Int) < (l.length : Int)) = False := eq_false (by omega)
      simp (maxSteps := 3000000) only [Try.f18, hsp3, ptRows_len, hlt, tYs, evL, implies_true, oMin, oCopy, oBin, oUn, oLoadKid, oStoreTree, oField, oExtract, oNil, oSliceQ, oLoadRow, takeCells, TS.atRow, TS.ex, treeMode, AV.isOwn, TK.isSl, nilTk, nilsB, oLenQ, oLen, nodupB, treeOf, kidAbs, kidRows, TK.isCell, D.toL, oLoad, oStore, oMake, oIndexAddr, ↓reduceIte, reduceCtorEq, Nat.reduceBEq, Nat.reduceAdd, Nat.reduceMul, Nat.reduceLT, Nat.reduceSub, Nat.reduceLeDiff, Nat.reduceEqDiff, Nat.reduceBneDiff, Int.reduceToNat, decide_eq_true_eq, decide_eq_false_iff_not, beq_iff_eq, Int.toNat_natCast, loopK_normal, loopK_exit, loopK_ret, w2]
      exact ⟨_, [], rfl, ⟨⟨⟨rfl, rfl, rfl⟩, trivial⟩, trivial, by simp [rn, hpAt]⟩⟩
  · cases hg
def lnN (xs : List UInt8) (p : Int) : Nat := (2 + pickV xs (pktV xs p 0).q 20).toNat
def lnV (xs : List UInt8) (p : Int) : PkV := { pktV xs p 0 with a := 0, m := false, u := false, d := bytesV xs ((pktV xs p 0).q + 1) (lnN xs p), q := (pktV xs p 0).q + 1 + 2 * (lnN xs p : Int) }
theorem lnN_bd (xs : List UInt8) (p : Int) (hp : p < 100000000000) : 2 ≤ lnN xs p ∧ lnN xs p ≤ 21 := by
  have h := pktV_q xs p 0
  have h1 := pickV_nonneg xs (pktV xs p 0).q 20 (by omega)
  have h2 := pickV_lt xs (pktV xs p 0).q 20 (by omega)
  unfold lnN; omega
theorem lnV_q (xs : List UInt8) (p : Int) (hp : p < 100000000000) : p ≤ (lnV xs p).q ∧ (lnV xs p).q < p + 100 ∧ (2 ≤ (lnV xs p).d.length ∧ (lnV xs p).d.length ≤ 21) := by
  have h := pktV_q xs p 0
  have h2 := lnN_bd xs p hp
  unfold lnV
  dsimp only
  rw [bytesV_len]
  omega
def pvK (v : PkV) : Pk := ⟨v.f, v.t, v.pr, v.h, v.i, v.a, v.m, v.u, v.d⟩
theorem lnV_ok (xs : List UInt8) (p : Int) (hp : p < 100000000000) : (pvK (lnV xs p)).ok = true := by
  have h := pvB_zero xs p hp
  have h2 := lnN_bd xs p hp
  rw [pvB, pkB, Bool.and_eq_true] at h
  have h3 := h.1
  rw [pkR, decide_eq_true_eq] at h3
  rw [Pk.ok, pkB, Bool.and_eq_true]
  refine ⟨?_, rfl⟩
  rw [pkR, decide_eq_true_eq]
  show ((0 ≤ (pktV xs p 0).f ∧ (pktV xs p 0).f ≤ 65535) ∧ 0 ≤ (pktV xs p 0).t ∧ (pktV xs p 0).t ≤ 65535) ∧ (0 ≤ (pktV xs p 0).pr ∧ (pktV xs p 0).pr ≤ 255) ∧ (0 ≤ (pktV xs p 0).h ∧ (pktV xs p 0).h ≤ 255) ∧ (0 ≤ (pktV xs p 0).i ∧ (pktV xs p 0).i ≤ 255) ∧ ((0 : Int) ≤ 0 ∧ (0 : Int) ≤ 255) ∧ (bytesV xs ((pktV xs p 0).q + 1) (lnN xs p)).length ≤ 48
  rw [bytesV_len]
  omega
def g_long : OC := fun args B0 => match args, B0 with
  | [.ptr r o], [.var T [.l 1 rows, .v (.int .i64 p)]] => some (T = 148 ∧ r = 0 ∧ o = 0 ∧ (∃ xs, rows = rowsOfBytes xs ∧ xs.length ≤ 2000) ∧ 0 ≤ p ∧ p < 10000000000, .agg [.v (.int .i64 (lnV (bytesOfRows rows) p).f), .v (.int .i64 (lnV (bytesOfRows rows) p).t), .v (.int .i64 (lnV (bytesOfRows rows) p).pr), .v (.int .i64 (lnV (bytesOfRows rows) p).h), .v (.int .i64 (lnV (bytesOfRows rows) p).i), .v (.int .i64 (lnV (bytesOfRows rows) p).a), .v (.bool (lnV (bytesOfRows rows) p).m), .v (.bool (lnV (bytesOfRows rows) p).u), .l 1 (rowsOfBytes (lnV (bytesOfRows rows) p).d)], [.var T [.l 1 rows, .v (.int .i64 (lnV (bytesOfRows rows) p).q)]], [])
  | _, _ => none
def hln : List (FuncId × Abs) := [(114, ownAbs g_packet), (58, ownAbs g_pick), (152, ownAbs g_bytes)]
theorem hln_ok : ∀ p ∈ hln, CallOk Try.prog p.1 p.2 := by
  intro p hp
  simp only [hln, List.mem_cons, List.not_mem_nil, or_false] at hp
  rcases hp with rfl | rfl | rfl
  · exact packet_ok.call
  · exact pick_ok.call
  · exact bytes_ok.call
set_option maxRecDepth 100000 in
theorem long_ok : OwnOk Try.prog 112 g_long := by
  refine OwnOk.of_vcL (G := hln) hln_ok mixed Try.func112 (by kernel_rfl) rfl ?_
  intro args B0 cnd r B1 bs hg hc hlive
  unfold g_long at hg
  split at hg
  · rename_i r o T rows p
    cases hg
    obtain ⟨rfl, rfl, rfl, ⟨xs, rfl, hl⟩, hp0, hp1⟩ := hc
    rw [bytesOf_rows]
    have hb := pktV_q xs p 0
    have hn := lnN_bd xs p (by omega)
    obtain ⟨V, hV⟩ : ∃ V, V = pktV xs p 0 := ⟨_, rfl⟩
    have hV' := hV.symm
    rw [hV'] at hb
    have h1 := pickV_nonneg xs V.q 20 (by omega)
    have h2 := pickV_lt xs V.q 20 (by omega)
    have w1 : IntKind.i64.wrap (2 + pickV xs V.q 20) = 2 + pickV xs V.q 20 := wrap_id (by omega) (by omega)
    obtain ⟨N, hN⟩ : ∃ N, N = lnN xs p := ⟨_, rfl⟩
    have hN' : (2 + pickV xs V.q 20).toNat = N := by rw [hN, lnN, hV']
    rw [← hN] at hn
    have hv : lnV xs p = { V with a := 0, m := false, u := false, d := bytesV xs (V.q + 1) N, q := V.q + 1 + 2 * (N : Int) } := by rw [lnV, hV', ← hN]
    rw [hv]
    refine ⟨⟨by simp [likeBs, likeB], rfl, fun b hb => by simp at hb; subst hb; exact ⟨_, _, rfl, rfl⟩, by simp [AV.ids, AV.ids.idsL]⟩, _, rfl, fun w Z s vs h => h, ?_⟩
    clear hlive
    have hx : (∃ ys, rowsOfBytes xs = rowsOfBytes ys ∧ ys.length ≤ 2000) = True := eq_true ⟨xs, rfl, hl⟩
    simp (maxSteps := 3000000) only [Try.f112, hln, g_packet, g_pick, g_bytes, hV', w1, hN', bytesOf_rows, rowsOf_len, hx, doneL_ret, doneL_normal, tYs, evL, implies_true, oMin, oCopy, oBin, oUn, oLoadKid, oStoreTree, oField, oExtract, oNil, oSliceQ, oLoadRow, takeCells, TS.atRow, TS.ex, treeMode, AV.isOwn, TK.isSl, nilTk, nilsB, oLenQ, oLen, nodupB, treeOf, kidAbs, kidRows, TK.isCell, D.toL, oLoad, oStore, oMake, oIndexAddr, ↓reduceIte, reduceCtorEq, Nat.reduceBEq, Nat.reduceAdd, Nat.reduceMul, Nat.reduceLT, Nat.reduceSub, Nat.reduceLeDiff, Nat.reduceEqDiff, Nat.reduceBneDiff, Int.reduceToNat, decide_eq_true_eq, decide_eq_false_iff_not, beq_iff_eq, Int.toNat_natCast]
    clear hV' w1 hv hN'
    (repeat (refine And.intro ?_ ?_; focus (((repeat' apply And.intro) <;> first | exact rowsOf_w _ | omega | (simp only [List.length_append, rowsOf_len, List.length_cons, List.length_nil, marks_len, List.length_take, List.length_drop, List.length_set]; omega) | exact ⟨_, rfl⟩ | (refine ⟨_, rfl, ?_⟩; omega) | (refine ⟨_, rfl, ?_⟩; simp only [List.length_append, rowsOf_len, List.length_cons, List.length_nil, marks_len, List.length_take, List.length_drop, List.length_set]; omega) | kernel_rfl | (simp; done)); done)))
    exact ⟨_, rfl, rfl, rfl⟩
  · cases hg
end Go.Proofs.Ytegffkmakkccaaa
