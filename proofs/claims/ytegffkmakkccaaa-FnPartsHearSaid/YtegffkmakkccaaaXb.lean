import Derived.Test.YtegffkmakkccaaaXa
namespace Go.Proofs.Ytegffkmakkccaaa
open Go.RowKit
set_option linter.unusedSimpArgs false
set_option linter.unusedVariables false
def pk0 : Pk := ⟨0, 0, 0, 0, 0, 0, false, false, []⟩
def same4 (x y : Pk) : Bool := decide (x.f = y.f ∧ x.t = y.t ∧ x.p = y.p ∧ x.i = y.i)
def Pk.z (x : Pk) : Int := x.a + (x.d.length : Int)
def follows (x y : Pk) : Bool := same4 x y && x.m && decide (x.z ≤ y.a)
def stepB (ps : List Pk) (k : Nat) : Bool := (ps.getD k pk0).ok && (decide (k = 0) || follows (ps.getD (k - 1) pk0) (ps.getD k pk0))
def sumN (ps : List Pk) : Nat := (ps.map fun x => x.d.length).sum
def oksK (ps : List Pk) (k : Nat) : Bool := (List.range k).all (stepB ps)
def piecesB (ps : List Pk) : Bool := oksK ps ps.length && decide (sumN ps ≤ 48) && decide (0 < ps.length)
def partB (ps : List Pk) (u : Int) : Bool := piecesB ps && decide (0 ≤ u ∧ u ≤ 1000000)
def pMid (ps : List Pk) : Prop := ps.length ≤ 1048576 ∧ ∀ x ∈ ps, x.d.length ≤ 1048576
theorem pk_get {ps : List Pk} {k : Nat} (h : k < ps.length) : ps.getD k pk0 = ps[k] := by simp [List.getD, h]
theorem oksK_succ (ps : List Pk) (k : Nat) : oksK ps (k + 1) = (oksK ps k && stepB ps k) := by simp [oksK, List.range_succ]
theorem oksK_at {ps : List Pk} {k j : Nat} (h : oksK ps k = true) (hj : j < k) : stepB ps j = true := List.all_eq_true.1 h j (List.mem_range.2 hj)
theorem oksK_no {ps : List Pk} {k n : Nat} (hk : k < n) (h : stepB ps k = false) : oksK ps n = false := by
  rw [Bool.eq_false_iff]
  intro hn
  rw [oksK_at hn hk] at h
  cases h
theorem sumN_app (a b : List Pk) : sumN (a ++ b) = sumN a + sumN b := by simp [sumN]
theorem sumN_take {ps : List Pk} {k : Nat} (h : k < ps.length) : sumN (ps.take (k + 1)) = sumN (ps.take k) + ps[k].d.length := by
  rw [List.take_add_one, List.getElem?_eq_getElem h, sumN_app]; simp [sumN]
theorem sumN_le (ps : List Pk) (k : Nat) : sumN (ps.take k) ≤ sumN ps := by
  conv => rhs; rw [← List.take_append_drop k ps, sumN_app]
  omega
theorem pkB_ok (x : Pk) : pkB x.f x.t x.p x.h x.i x.a x.m x.u x.d.length = x.ok := rfl
theorem pk_eta (x : Pk) : (⟨x.f, x.t, x.p, x.h, x.i, x.a, x.m, x.u, x.d⟩ : Pk) = x := rfl
theorem follows_eq (x y : Pk) : (same4 x y && x.m && decide (x.a + (x.d.length : Int) ≤ y.a)) = follows x y := rfl
theorem piecesB_no {ps : List Pk} {k : Nat} (hk : k < ps.length) (h : stepB ps k = false) : piecesB ps = false := by rw [piecesB, oksK_no hk h]; rfl
theorem piecesB_many {ps : List Pk} (k : Nat) (h : 48 < sumN (ps.take k)) : piecesB ps = false := by
  have := sumN_le ps k
  rw [piecesB, decide_eq_false (p := sumN ps ≤ 48) (by omega)]; simp
theorem step_zero {ps : List Pk} (h : 0 < ps.length) : stepB ps 0 = ps[0].ok := by rw [stepB, pk_get h]; simp
theorem step_succ {ps : List Pk} {j : Nat} (h : j + 1 < ps.length) : stepB ps (j + 1) = (ps[j + 1].ok && follows (ps[j]'(by omega)) ps[j + 1]) := by
  rw [stepB, pk_get h, Nat.add_sub_cancel, pk_get (show j < ps.length by omega), decide_eq_false (by omega), Bool.false_or]
theorem ok_rng {x : Pk} (h : x.ok = true) : (0 ≤ x.a ∧ x.a ≤ 255) ∧ x.d.length ≤ 48 := by
  simp only [Pk.ok, pkB, pkR, Bool.and_eq_true, decide_eq_true_eq] at h
  omega
theorem step_ok {ps : List Pk} {k : Nat} (h : stepB ps k = true) (hk : k < ps.length) : ps[k].ok = true := by
  rw [stepB, pk_get hk, Bool.and_eq_true] at h
  exact h.1
def g_ofOne : PC := fun args => match args with
  | [.agg [.v (.int .i64 f), .v (.int .i64 t), .v (.int .i64 p), .v (.int .i64 h), .v (.int .i64 i), .v (.int .i64 a), .v (.bool m), .v (.bool u), .l _ rows], .agg [.v (.int .i64 f'), .v (.int .i64 t'), .v (.int .i64 p'), .v (.int .i64 h'), .v (.int .i64 i'), .v (.int .i64 a'), .v (.bool m'), .v (.bool u'), .l _ rows']] => some (True, .v (.bool (same4 ⟨f, t, p, h, i, a, m, u, bytesOfRows rows⟩ ⟨f', t', p', h', i', a', m', u', bytesOfRows rows'⟩)), [])
  | _ => none
def g_pieceEnd : PC := fun args => match args with
  | [.agg [.v (.int .i64 f), .v (.int .i64 t), .v (.int .i64 p), .v (.int .i64 h), .v (.int .i64 i), .v (.int .i64 a), .v (.bool m), .v (.bool u), .l _ rows]] => some ((0 ≤ a ∧ a ≤ 1048576) ∧ rows.length ≤ 1048576, .v (.int .i64 (a + (rows.length : Int))), [])
  | _ => none
def g_follows : PC := fun args => match args with
  | [.agg [.v (.int .i64 f), .v (.int .i64 t), .v (.int .i64 p), .v (.int .i64 h), .v (.int .i64 i), .v (.int .i64 a), .v (.bool m), .v (.bool u), .l _ rows], .agg [.v (.int .i64 f'), .v (.int .i64 t'), .v (.int .i64 p'), .v (.int .i64 h'), .v (.int .i64 i'), .v (.int .i64 a'), .v (.bool m'), .v (.bool u'), .l _ rows']] => some ((0 ≤ a ∧ a ≤ 1048576) ∧ rows.length ≤ 1048576, .v (.bool (same4 ⟨f, t, p, h, i, a, m, u, bytesOfRows rows⟩ ⟨f', t', p', h', i', a', m', u', bytesOfRows rows'⟩ && m && decide (a + (rows.length : Int) ≤ a'))), [])
  | _ => none
def g_piecesOk : PC := fun args => match args with
  | [.l _ rows] => some (∃ ps, rows = pRows ps ∧ pMid ps, .v (.bool (piecesB (psOf rows))), [])
  | _ => none
def g_partOk : PC := fun args => match args with
  | [.agg [.l _ rows, .v (.int .i64 u)]] => some (∃ ps, rows = pRows ps ∧ pMid ps, .v (.bool (partB (psOf rows) u)), [])
  | _ => none
set_option maxRecDepth 100000 in
theorem ofOne_ok : PureOk Try.prog 119 g_ofOne := by
  refine PureOk.of_vc (G := []) (by simp) mixed Try.func119 (by kernel_rfl) rfl ?_
  intro args cnd r bs hg hc
  unfold g_ofOne at hg
  split at hg
  · rename_i f t p h i a m u sz rows f' t' p' h' i' a' m' u' sz' rows'
    cases hg
    refine ⟨⟨rfl, by simp, by simp [AV.ids, AV.ids.idsL]⟩, _, rfl, fun w vs h => h, ?_⟩
    simp (maxSteps := 3000000) only [Try.f119, tYs, evL, implies_true, oMin, oCopy, oBin, oUn, oLoadKid, oStoreTree, oField, oExtract, oNil, oSliceQ, oLoadRow, takeCells, TS.atRow, TS.ex, treeMode, AV.isOwn, TK.isSl, nilTk, nilsB, oLenQ, oLen, nodupB, treeOf, kidAbs, kidRows, TK.isCell, D.toL, oLoad, oStore, oMake, oIndexAddr, ↓reduceIte, reduceCtorEq, Nat.reduceBEq, Nat.reduceAdd, Nat.reduceMul, Nat.reduceLT, Nat.reduceSub, Nat.reduceLeDiff, Nat.reduceEqDiff, Nat.reduceBneDiff, Int.reduceToNat, decide_eq_true_eq, decide_eq_false_iff_not, beq_iff_eq, Int.toNat_natCast]
    repeat' split
    all_goals (refine ⟨_, [], rfl, ⟨⟨⟨?_, rfl, rfl⟩, trivial⟩, by simp [hpAt, fitH], by simp [hpAt]⟩⟩; refine congrArg (fun b => AV.v (Value.bool b)) ?_; first | rfl | (rw [Bool.eq_iff_iff]; simp only [same4, decide_eq_true_eq, inZ, Bool.and_eq_true, Bool.or_eq_true, bne_iff_ne, Bool.false_eq_true, beq_eq_false_iff_ne, beq_iff_eq, ne_eq, decide_eq_false_iff_not, Bool.not_eq_eq_eq_not, Bool.not_true, Bool.not_false, false_iff, iff_false, true_iff, iff_true] at *; omega))
  · cases hg
set_option maxRecDepth 100000 in
theorem pieceEnd_ok : PureOk Try.prog 169 g_pieceEnd := by
  refine PureOk.of_vc (G := []) (by simp) mixed Try.func169 (by kernel_rfl) rfl ?_
  intro args cnd r bs hg hc
  unfold g_pieceEnd at hg
  split at hg
  · rename_i f t p h i a m u sz rows
    cases hg
    obtain ⟨⟨ha0, ha⟩, hn⟩ := hc
    have w1 : IntKind.i64.wrap (a + (rows.length : Int)) = a + (rows.length : Int) := by rw [wrap_id] <;> omega
    refine ⟨⟨rfl, by simp, by simp [AV.ids, AV.ids.idsL]⟩, _, rfl, fun w vs h => h, ?_⟩
    simp (maxSteps := 3000000) only [Try.f169, w1, tYs, evL, implies_true, oMin, oCopy, oBin, oUn, oLoadKid, oStoreTree, oField, oExtract, oNil, oSliceQ, oLoadRow, takeCells, TS.atRow, TS.ex, treeMode, AV.isOwn, TK.isSl, nilTk, nilsB, oLenQ, oLen, nodupB, treeOf, kidAbs, kidRows, TK.isCell, D.toL, oLoad, oStore, oMake, oIndexAddr, ↓reduceIte, reduceCtorEq, Nat.reduceBEq, Nat.reduceAdd, Nat.reduceMul, Nat.reduceLT, Nat.reduceSub, Nat.reduceLeDiff, Nat.reduceEqDiff, Nat.reduceBneDiff, Int.reduceToNat, decide_eq_true_eq, decide_eq_false_iff_not, beq_iff_eq, Int.toNat_natCast]
    exact ⟨_, [], rfl, ⟨⟨⟨rfl, rfl, rfl⟩, trivial⟩, trivial, by simp [rn, hpAt]⟩⟩
  · cases hg
def pfs : List (FuncId × Abs) := [(119, pureAbs g_ofOne), (169, pureAbs g_pieceEnd)]
theorem pfs_ok : ∀ p ∈ pfs, CallOk Try.prog p.1 p.2 := by
  intro p hp
  simp only [pfs, List.mem_cons, List.not_mem_nil, or_false] at hp
  rcases hp with rfl | rfl
  · exact ofOne_ok.call
  · exact pieceEnd_ok.call
set_option maxRecDepth 100000 in
theorem follows_ok : PureOk Try.prog 153 g_follows := by
  refine PureOk.of_vc (G := pfs) pfs_ok mixed Try.func153 (by kernel_rfl) rfl ?_
  intro args cnd r bs hg hc
  unfold g_follows at hg
  split at hg
  · rename_i f t p h i a m u sz rows f' t' p' h' i' a' m' u' sz' rows'
    cases hg
    obtain ⟨⟨ha0, ha⟩, hn⟩ := hc
    refine ⟨⟨rfl, by simp, by simp [AV.ids, AV.ids.idsL]⟩, _, rfl, fun w vs h => h, ?_⟩
    simp (maxSteps := 3000000) only [Try.f153, pfs, g_ofOne, g_pieceEnd, tYs, evL, implies_true, oMin, oCopy, oBin, oUn, oLoadKid, oStoreTree, oField, oExtract, oNil, oSliceQ, oLoadRow, takeCells, TS.atRow, TS.ex, treeMode, AV.isOwn, TK.isSl, nilTk, nilsB, oLenQ, oLen, nodupB, treeOf, kidAbs, kidRows, TK.isCell, D.toL, oLoad, oStore, oMake, oIndexAddr, ↓reduceIte, reduceCtorEq, Nat.reduceBEq, Nat.reduceAdd, Nat.reduceMul, Nat.reduceLT, Nat.reduceSub, Nat.reduceLeDiff, Nat.reduceEqDiff, Nat.reduceBneDiff, Int.reduceToNat, decide_eq_true_eq, decide_eq_false_iff_not, beq_iff_eq, Int.toNat_natCast]
    by_cases h4 : same4 ⟨f, t, p, h, i, a, m, u, bytesOfRows rows⟩ ⟨f', t', p', h', i', a', m', u', bytesOfRows rows'⟩ = true
    · rw [h4, if_pos rfl]
      cases m with
      | true =>
        rw [if_pos rfl]
        exact ⟨⟨⟨ha0, ha⟩, hn⟩, by kernel_rfl, _, [], rfl, ⟨⟨⟨rfl, rfl, rfl⟩, trivial⟩, trivial, by simp [rn, hpAt]⟩⟩
      | false =>
        rw [if_neg (by simp)]
        exact ⟨by kernel_rfl, _, [], rfl, ⟨⟨⟨rfl, rfl, rfl⟩, trivial⟩, trivial, by simp [rn, hpAt]⟩⟩
    · rw [Bool.eq_false_iff.2 h4, if_neg (by simp)]
      exact ⟨by kernel_rfl, _, [], rfl, ⟨⟨⟨rfl, rfl, rfl⟩, trivial⟩, trivial, by simp [rn, hpAt]⟩⟩
  · cases hg
def pos : List (FuncId × Abs) := [(19, pureAbs g_packetOk), (153, pureAbs g_follows)]
theorem pos_ok : ∀ p ∈ pos, CallOk Try.prog p.1 p.2 := by
  intro p hp
  simp only [pos, List.mem_cons, List.not_mem_nil, or_false] at hp
  rcases hp with rfl | rfl
  · exact implPacketOk_ok.call
  · exact follows_ok.call
set_option maxRecDepth 100000 in
theorem piecesOk_ok : PureOk Try.prog 117 g_piecesOk := by
  refine PureOk.of_vc (G := pos) pos_ok mixed Try.func117 (by kernel_rfl) rfl ?_
  intro args cnd r bs hg hc
  unfold g_piecesOk at hg
  split at hg
  · rename_i sz rows
    cases hg
    obtain ⟨ps, rfl, hn, hd⟩ := hc
    rw [psOf_rows]
    refine ⟨⟨rfl, by simp, by simp [AV.ids, AV.ids.idsL]⟩, [.l 9 (pRows ps)], rfl, fun w vs h => CvL.ok (.cons (.l _ _ _ (pRows_w ps)) .nil) h, ?_⟩
    simp (maxSteps := 3000000) only [Try.f117, pos, pRows_len, tYs, evL, implies_true, oMin, oCopy, oBin, oUn, oLoadKid, oStoreTree, oField, oExtract, oNil, oSliceQ, oLoadRow, takeCells, TS.atRow, TS.ex, treeMode, AV.isOwn, TK.isSl, nilTk, nilsB, oLenQ, oLen, nodupB, treeOf, kidAbs, kidRows, TK.isCell, D.toL, oLoad, oStore, oMake, oIndexAddr, ↓reduceIte, reduceCtorEq, Nat.reduceBEq, Nat.reduceAdd, Nat.reduceMul, Nat.reduceLT, Nat.reduceSub, Nat.reduceLeDiff, Nat.reduceEqDiff, Nat.reduceBneDiff, Int.reduceToNat, decide_eq_true_eq, decide_eq_false_iff_not, beq_iff_eq, Int.toNat_natCast]
    refine e_loop _ _ _ _ _ _ _ _ (fun k : Nat => [.l 9 (pRows ps), .any, .any, .v (.int .i64 ((sumN (ps.take k) : Nat) : Int)), .any, .any, .l 9 (pRows ps), .v (.int .i64 (ps.length : Int)), .v (.int .i64 (k : Int))] ++ List.replicate (Try.f117.ntmps - 9) .any) (fun k => []) (fun k => k ≤ ps.length ∧ oksK ps k = true ∧ sumN (ps.take k) ≤ 48) (fun k => ps.length - k) 0 (fun k => by simp) ?_ fun k hk' => ?_
    · exact ⟨0, [], ⟨Nat.zero_le _, rfl, by simp [sumN]⟩, ⟨⟨⟨rfl, rfl, rfl⟩, trivial, trivial, ⟨rfl, rfl, rfl⟩, trivial, trivial, ⟨rfl, rfl, rfl⟩, ⟨rfl, rfl, rfl⟩, ⟨rfl, rfl, rfl⟩, fitT_rep _ _ rfl⟩, trivial, by simp [rn, hpAt]⟩, by simp [keepIds]⟩
    obtain ⟨hk1, hk2, hk3⟩ := hk'
    have w2 : IntKind.i64.wrap ((k : Int) + 1) = ((k + 1 : Nat) : Int) := by rw [wrap_id] <;> omega
    by_cases h : k < ps.length
    · have hrow := pRows_get ps k h
      have hlt : ((k : Int) < (ps.length : Int)) = True := eq_true (by omega)
      have h0 : (0 ≤ (k : Int)) = True := eq_true (by omega)
      have hx := hd ps[k] (List.getElem_mem h)
      have ws : IntKind.i64.wrap (((sumN (ps.take k) : Nat) : Int) + (ps[k].d.length : Int)) = ((sumN (ps.take (k + 1)) : Nat) : Int) := by rw [sumN_take h, wrap_id] <;> omega
      generalize sumN (ps.take k) = M at hk3 ws
      cases k with
      | zero =>
        simp (maxSteps := 3000000) only [Try.f117, pos, pRows_len, rowsOf_len, bytesOf_rows, g_packetOk, g_follows, hrow, hlt, h0, ws, pkB_ok, pk_eta, D.toI, dB, D.toB, D.toL, pRow, tYs, evL, implies_true, oMin, oCopy, oBin, oUn, oLoadKid, oStoreTree, oField, oExtract, oNil, oSliceQ, oLoadRow, takeCells, TS.atRow, TS.ex, treeMode, AV.isOwn, TK.isSl, nilTk, nilsB, oLenQ, oLen, nodupB, treeOf, kidAbs, kidRows, TK.isCell, D.toL, oLoad, oStore, oMake, oIndexAddr, ↓reduceIte, reduceCtorEq, Nat.reduceBEq, Nat.reduceAdd, Nat.reduceMul, Nat.reduceLT, Nat.reduceSub, Nat.reduceLeDiff, Nat.reduceEqDiff, Nat.reduceBneDiff, Int.reduceToNat, decide_eq_true_eq, decide_eq_false_iff_not, beq_iff_eq, Int.toNat_natCast, loopK_normal, loopK_exit, loopK_ret, w2]
        have hz : ¬ (((0 : Nat) : Int) > 0) := by omega
        by_cases ok : ps[0].ok = true
        · have hs : oksK ps (0 + 1) = true := by rw [oksK_succ, hk2, step_zero h, ok]; rfl
          rw [if_pos (by simp [ok]), if_neg hz]
          refine ⟨by kernel_rfl, ?_⟩
          by_cases hm : ((sumN (ps.take (1)) : Nat) : Int) > 48
          · rw [if_pos hm, piecesB_many (1) (by omega)]
            exact ⟨_, [], rfl, ⟨⟨⟨rfl, rfl, rfl⟩, trivial⟩, trivial, by simp [rn, hpAt]⟩⟩
          · rw [if_neg hm]
            exact ⟨1, [], ⟨by omega, hs, by omega⟩, by omega, ⟨⟨⟨rfl, rfl, rfl⟩, trivial, trivial, ⟨rfl, rfl, rfl⟩, trivial, trivial, ⟨rfl, rfl, rfl⟩, ⟨rfl, rfl, rfl⟩, ⟨rfl, rfl, rfl⟩, fitT_rep _ _ rfl⟩, trivial, by simp [rn, hpAt]⟩, by simp [keepIds]⟩
        · rw [if_neg (by simp [ok]), piecesB_no h (by rw [step_zero h]; exact Bool.eq_false_iff.2 ok)]
          exact ⟨by kernel_rfl, _, [], rfl, ⟨⟨⟨rfl, rfl, rfl⟩, trivial⟩, trivial, by simp [rn, hpAt]⟩⟩
      | succ j =>
        have wp : IntKind.i64.wrap (((j + 1 : Nat) : Int) - 1) = (j : Int) := by rw [wrap_id] <;> omega
        have hj : j < ps.length := by omega
        have hrj := pRows_get ps j hj
        have hjlt : ((j : Int) < (ps.length : Int)) = True := eq_true (by omega)
        have h0j : (0 ≤ (j : Int)) = True := eq_true (by omega)
        have hgt : (((j + 1 : Nat) : Int) > 0) = True := eq_true (by omega)
        have hok := ok_rng (step_ok (oksK_at hk2 (show j < j + 1 by omega)) hj)
        simp (maxSteps := 3000000) only [Try.f117, pos, pRows_len, rowsOf_len, bytesOf_rows, g_packetOk, g_follows, hrow, hlt, h0, ws, pkB_ok, pk_eta, wp, hrj, hjlt, h0j, hgt, follows_eq, D.toI, dB, D.toB, D.toL, pRow, tYs, evL, implies_true, oMin, oCopy, oBin, oUn, oLoadKid, oStoreTree, oField, oExtract, oNil, oSliceQ, oLoadRow, takeCells, TS.atRow, TS.ex, treeMode, AV.isOwn, TK.isSl, nilTk, nilsB, oLenQ, oLen, nodupB, treeOf, kidAbs, kidRows, TK.isCell, D.toL, oLoad, oStore, oMake, oIndexAddr, ↓reduceIte, reduceCtorEq, Nat.reduceBEq, Nat.reduceAdd, Nat.reduceMul, Nat.reduceLT, Nat.reduceSub, Nat.reduceLeDiff, Nat.reduceEqDiff, Nat.reduceBneDiff, Int.reduceToNat, decide_eq_true_eq, decide_eq_false_iff_not, beq_iff_eq, Int.toNat_natCast, loopK_normal, loopK_exit, loopK_ret, w2]
        by_cases ok : ps[j + 1].ok = true
        · rw [if_pos (by simp [ok])]
          refine ⟨⟨by omega, by omega⟩, ?_⟩
          by_cases fl : follows ps[j] ps[j + 1] = true
          · have hs : oksK ps (j + 1 + 1) = true := by rw [oksK_succ, hk2, step_succ h, ok, fl]; rfl
            rw [if_neg (by simp [fl])]
            refine ⟨by kernel_rfl, ?_⟩
            by_cases hm : ((sumN (ps.take (j + 1 + 1)) : Nat) : Int) > 48
            · rw [if_pos hm, piecesB_many (j + 1 + 1) (by omega)]
              exact ⟨_, [], rfl, ⟨⟨⟨rfl, rfl, rfl⟩, trivial⟩, trivial, by simp [rn, hpAt]⟩⟩
            · rw [if_neg hm]
              exact ⟨j + 1 + 1, [], ⟨by omega, hs, by omega⟩, by omega, ⟨⟨⟨rfl, rfl, rfl⟩, trivial, trivial, ⟨rfl, rfl, rfl⟩, trivial, trivial, ⟨rfl, rfl, rfl⟩, ⟨rfl, rfl, rfl⟩, ⟨rfl, rfl, rfl⟩, fitT_rep _ _ rfl⟩, trivial, by simp [rn, hpAt]⟩, by simp [keepIds]⟩
          · rw [if_pos (by simp [fl]), piecesB_no h (by rw [step_succ h, Bool.eq_false_iff.2 fl]; simp)]
            exact ⟨by kernel_rfl, _, [], rfl, ⟨⟨⟨rfl, rfl, rfl⟩, trivial⟩, trivial, by simp [rn, hpAt]⟩⟩
        · rw [if_neg (by simp [ok]), piecesB_no h (by rw [step_succ h, Bool.eq_false_iff.2 ok]; rfl)]
          exact ⟨by kernel_rfl, _, [], rfl, ⟨⟨⟨rfl, rfl, rfl⟩, trivial⟩, trivial, by simp [rn, hpAt]⟩⟩
    · have hlt : ((k : Int) < (ps.length : Int)) = False := eq_false (by omega)
      simp (maxSteps := 3000000) only [Try.f117, pos, pRows_len, rowsOf_len, bytesOf_rows, hlt, D.toI, dB, D.toB, D.toL, pRow, tYs, evL, implies_true, oMin, oCopy, oBin, oUn, oLoadKid, oStoreTree, oField, oExtract, oNil, oSliceQ, oLoadRow, takeCells, TS.atRow, TS.ex, treeMode, AV.isOwn, TK.isSl, nilTk, nilsB, oLenQ, oLen, nodupB, treeOf, kidAbs, kidRows, TK.isCell, D.toL, oLoad, oStore, oMake, oIndexAddr, ↓reduceIte, reduceCtorEq, Nat.reduceBEq, Nat.reduceAdd, Nat.reduceMul, Nat.reduceLT, Nat.reduceSub, Nat.reduceLeDiff, Nat.reduceEqDiff, Nat.reduceBneDiff, Int.reduceToNat, decide_eq_true_eq, decide_eq_false_iff_not, beq_iff_eq, Int.toNat_natCast, loopK_normal, loopK_exit, loopK_ret, w2]
      obtain rfl : k = ps.length := by omega
      have e : piecesB ps = decide ((ps.length : Int) > 0) := by
        rw [piecesB, hk2, decide_eq_true (p := sumN ps ≤ 48) (by rw [List.take_length] at hk3; exact hk3), Bool.and_true, Bool.true_and]
        exact decide_eq_decide.2 (by omega)
      rw [e]
      exact ⟨_, [], rfl, ⟨⟨⟨rfl, rfl, rfl⟩, trivial⟩, trivial, by simp [rn, hpAt]⟩⟩
  · cases hg
end Go.Proofs.Ytegffkmakkccaaa
