import Derived.Test.YthbcoakimbpkgaaXj
namespace Go.Proofs.Ythbcoakimbpkgaa
open Go.RowKit
set_option linter.unusedSimpArgs false
set_option linter.unusedVariables false
theorem Pk_eq (x y : Pk) : x = y ↔ x.f = y.f ∧ x.t = y.t ∧ x.p = y.p ∧ x.h = y.h ∧ x.i = y.i ∧ x.a = y.a ∧ x.m = y.m ∧ x.u = y.u ∧ x.d = y.d := by
  cases x; cases y; simp
theorem Pt_eq (x y : Pt) : x = y ↔ x.ps = y.ps ∧ x.u = y.u := by
  cases x; cases y; simp
instance : DecidableEq Pk := fun x y => decidable_of_iff _ (Pk_eq x y).symm
instance : DecidableEq Pt := fun x y => decidable_of_iff _ (Pt_eq x y).symm
theorem take_eq {α : Type} {a b : List α} {k : Nat} (ha : k < a.length) (hb : k < b.length) : a.take (k + 1) = b.take (k + 1) ↔ a.take k = b.take k ∧ a[k] = b[k] := by
  rw [List.take_add_one, List.take_add_one, List.getElem?_eq_getElem ha, List.getElem?_eq_getElem hb]
  constructor
  · intro h
    have h1 := List.append_inj h (by rw [List.length_take, List.length_take]; omega)
    exact ⟨h1.1, by simpa using h1.2⟩
  · rintro ⟨h1, h2⟩
    rw [h1, h2]
def g_eqPacketS : PC := fun args => match args with
  | [.l _ rows, .l _ rows'] => some ((∃ ps, rows = pRows ps ∧ pMid ps) ∧ ∃ qs, rows' = pRows qs ∧ pMid qs, .v (.bool (decide (psOf rows = psOf rows'))), [])
  | _ => none
def eps : List (FuncId × Abs) := [(47, pureAbs g_eqPacket)]
theorem eps_ok : ∀ p ∈ eps, CallOk Try.prog p.1 p.2 := by
  intro p hp
  simp only [eps, List.mem_cons, List.not_mem_nil, or_false] at hp
  rcases hp with rfl
  · exact eqPacket_ok.call
set_option maxRecDepth 100000 in
theorem eqPacketS_ok : PureOk Try.prog 96 g_eqPacketS := by
  refine PureOk.of_vc (G := eps) eps_ok mixed Try.func96 (by kernel_rfl) rfl ?_
  intro args cnd r bs hg hc
  unfold g_eqPacketS at hg
  split at hg
  · rename_i sz rows sz' rows'
    cases hg
    obtain ⟨⟨ps, rfl, hn, hd⟩, qs, rfl, hn', hd'⟩ := hc
    rw [psOf_rows, psOf_rows]
    have no : ps ≠ qs → (decide (ps = qs)) = false := fun e => by simp [e]
    refine ⟨⟨rfl, by simp, by simp [AV.ids, AV.ids.idsL]⟩, [.l 9 (pRows ps), .l 9 (pRows qs)], rfl, fun w vs h => CvL.ok (.cons (.l _ _ _ (pRows_w ps)) (.cons (.l _ _ _ (pRows_w qs)) .nil)) h, ?_⟩
    simp (maxSteps := 3000000) only [Try.f96, eps, pRows_len, tYs, evL, implies_true, oMin, oCopy, oBin, oUn, oLoadKid, oStoreTree, oField, oExtract, oNil, oSliceQ, oLen, nodupB, treeOf, kidAbs, kidRows, TK.isCell, D.toL, oLoad, oStore, oMake, oIndexAddr, ↓reduceIte, reduceCtorEq, Nat.reduceBEq, Nat.reduceAdd, Nat.reduceMul, Nat.reduceLT, Nat.reduceSub, Nat.reduceLeDiff, Nat.reduceEqDiff, Nat.reduceBneDiff, Int.reduceToNat, decide_eq_true_eq, decide_eq_false_iff_not, beq_iff_eq, Int.toNat_natCast]
    by_cases hll : ps.length = qs.length
    · rw [if_neg (by simp [hll])]
      refine e_loop _ _ _ _ _ _ _ _ (fun k : Nat => [.l 9 (pRows ps), .l 9 (pRows qs), .any, .any, .any, .v (.int .i64 (k : Int))] ++ List.replicate (Try.f96.ntmps - 6) .any) (fun k => []) (fun k => k ≤ ps.length ∧ ps.take k = qs.take k) (fun k => ps.length - k) 0 (fun k => by simp) ?_ fun k hk' => ?_
      · exact ⟨0, [], ⟨Nat.zero_le _, rfl⟩, ⟨⟨⟨rfl, rfl, rfl⟩, ⟨rfl, rfl, rfl⟩, trivial, trivial, trivial, ⟨rfl, rfl, rfl⟩, fitT_rep _ _ rfl⟩, trivial, by simp [rn, hpAt]⟩, by simp [keepIds]⟩
      obtain ⟨hk1, hk2⟩ := hk'
      have w2 : IntKind.i64.wrap ((k : Int) + 1) = ((k + 1 : Nat) : Int) := by rw [wrap_id] <;> omega
      by_cases hk : k < ps.length
      · have hky : k < qs.length := by omega
        have hrow := pRows_get ps k hk
        have hrow' := pRows_get qs k hky
        have hlt : ((k : Int) < (ps.length : Int)) = True := eq_true (by omega)
        have hlt' : ((k : Int) < (qs.length : Int)) = True := eq_true (by omega)
        have h0 : (0 ≤ (k : Int)) = True := eq_true (by omega)
        have hx := hd ps[k] (List.getElem_mem hk)
        have hx' := hd' qs[k] (List.getElem_mem hky)
        have hte := take_eq hk hky
        simp (maxSteps := 3000000) only [Try.f96, eps, pRows_len, rowsOf_len, bytesOf_rows, g_eqPacket, hrow, hrow', hlt, hlt', h0, D.toI, dB, D.toB, D.toL, pRow, tYs, evL, implies_true, oMin, oCopy, oBin, oUn, oLoadKid, oStoreTree, oField, oExtract, oNil, oSliceQ, oLen, nodupB, treeOf, kidAbs, kidRows, TK.isCell, D.toL, oLoad, oStore, oMake, oIndexAddr, ↓reduceIte, reduceCtorEq, Nat.reduceBEq, Nat.reduceAdd, Nat.reduceMul, Nat.reduceLT, Nat.reduceSub, Nat.reduceLeDiff, Nat.reduceEqDiff, Nat.reduceBneDiff, Int.reduceToNat, decide_eq_true_eq, decide_eq_false_iff_not, beq_iff_eq, Int.toNat_natCast, loopK_normal, loopK_exit, loopK_ret, w2]
        refine ⟨⟨⟨_, rfl, by omega⟩, _, rfl, by omega⟩, by kernel_rfl, ?_⟩
        by_cases he : ps[k] = qs[k]
        · rw [if_neg (by rw [Bool.not_eq_true, Bool.not_eq_false', decide_eq_true_eq]; exact (Pk_eq _ _).1 he)]
          exact ⟨k + 1, [], ⟨by omega, hte.2 ⟨hk2, he⟩⟩, by omega, ⟨⟨⟨rfl, rfl, rfl⟩, ⟨rfl, rfl, rfl⟩, trivial, trivial, trivial, ⟨rfl, rfl, rfl⟩, fitT_rep _ _ rfl⟩, trivial, by simp [rn, hpAt]⟩, by simp [keepIds]⟩
        · rw [if_pos (by rw [Bool.not_eq_true', decide_eq_false_iff_not]; exact fun h => he ((Pk_eq _ _).2 h)), no (fun e => he (by subst e; rfl))]
          exact ⟨_, [], rfl, ⟨⟨⟨rfl, rfl, rfl⟩, trivial⟩, trivial, by simp [rn, hpAt]⟩⟩
      · have hlt : ((k : Int) < (ps.length : Int)) = False := eq_false (by omega)
        simp (maxSteps := 3000000) only [Try.f96, eps, pRows_len, rowsOf_len, bytesOf_rows, hlt, D.toI, dB, D.toB, D.toL, pRow, tYs, evL, implies_true, oMin, oCopy, oBin, oUn, oLoadKid, oStoreTree, oField, oExtract, oNil, oSliceQ, oLen, nodupB, treeOf, kidAbs, kidRows, TK.isCell, D.toL, oLoad, oStore, oMake, oIndexAddr, ↓reduceIte, reduceCtorEq, Nat.reduceBEq, Nat.reduceAdd, Nat.reduceMul, Nat.reduceLT, Nat.reduceSub, Nat.reduceLeDiff, Nat.reduceEqDiff, Nat.reduceBneDiff, Int.reduceToNat, decide_eq_true_eq, decide_eq_false_iff_not, beq_iff_eq, Int.toNat_natCast, loopK_normal, loopK_exit, loopK_ret, w2]
        have e : ps = qs := by
          have h1 := hk2
          rwa [List.take_of_length_le (by omega), List.take_of_length_le (by omega)] at h1
        rw [decide_eq_true e]
        exact ⟨_, [], rfl, ⟨⟨⟨rfl, rfl, rfl⟩, trivial⟩, trivial, by simp [rn, hpAt]⟩⟩
    · rw [if_pos (by rw [bne_iff_ne]; omega), no (fun e => hll (by rw [e]))]
      exact ⟨_, [], rfl, ⟨⟨⟨rfl, rfl, rfl⟩, trivial⟩, trivial, by simp [rn, hpAt]⟩⟩
  · cases hg
end Go.Proofs.Ythbcoakimbpkgaa
