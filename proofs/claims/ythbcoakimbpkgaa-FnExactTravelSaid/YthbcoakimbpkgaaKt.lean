import Derived.Test.YthbcoakimbpkgaaXo
import Derived.Test.YthbcoakimbpkgaaXk
import Derived.Test.YthbcoakimbpkgaaXf
import Derived.Test.YthbcoakimbpkgaaKs
namespace Go.Proofs.Ythbcoakimbpkgaa
open Go.RowKit
set_option linter.unusedSimpArgs false
set_option linter.unusedVariables false
theorem sumN_le_mul {ps : List Pk} {b : Nat} (h : ∀ x ∈ ps, x.d.length ≤ b) : sumN ps ≤ ps.length * b := by
  induction ps with
  | nil => simp [sumN]
  | cons x t ih =>
    have h1 := h x (List.mem_cons_self ..)
    have h2 := ih fun y hy => h y (List.mem_cons_of_mem _ hy)
    rw [sumN, List.map_cons, List.sum_cons, ← sumN, List.length_cons, Nat.succ_mul]
    omega
end Go.Proofs.Ythbcoakimbpkgaa
set_option linter.unusedVariables false
set_option linter.unusedSimpArgs false
namespace Go.Proofs.Ythbcoakimbpkgaa
open Go.RowKit
set_option linter.unusedSimpArgs false
def g_markSt : OC := fun args B0 => match args, B0 with
  | [.agg [.v (.int .i64 a), .own r], .v (.int .i64 c)], [.sl T sz rows] => some (r = 0 ∧ T = 56 ∧ sz = 4 ∧ (∃ l, rows = rtRows l ∧ l.length ≤ 1048577) ∧ 0 ≤ c ∧ c ≤ 1099511627776, .v (.int .i64 (c + 4 * (rows.length : Int))), [.sl T sz (rtRows (rtMks c rows.length))], [])
  | _, _ => none
def g_eqDone : PC := fun args => match args with
  | [.agg [.v (.int .i64 k), .v (.int .i64 v), .l _ rows], .agg [.v (.int .i64 k'), .v (.int .i64 v'), .l _ rows']] => some ((k = k' ∧ v = v') ∧ (∃ ps, rows = pRows ps ∧ pMid ps) ∧ ∃ qs, rows' = pRows qs ∧ pMid qs, .v (.bool (decide (psOf rows = psOf rows'))), [])
  | _ => none
def g_markDone : OC := fun args B0 => match args, B0 with
  | [.agg [.v (.int .i64 k), .v (.int .i64 v), .own r], .v (.int .i64 c)], [.tr .whole T sz cols rows] => some (r = 0 ∧ T = 31 ∧ sz = 9 ∧ cols = [.cell, .cell, .cell, .cell, .cell, .cell, .cell, .cell, .sl 5 1 [.cell]] ∧ (∃ ps, rows = pRows ps ∧ ps.length ≤ 1048576 ∧ sumN ps ≤ 1048576) ∧ 0 ≤ c ∧ c ≤ 549755813888,
      .v (.int .i64 (mkC (psOf rows) c.toNat : Nat)), [.tr .whole T sz cols (pRows (mkL (psOf rows) c.toNat))], [])
  | _, _ => none
def g_heldDone : PC := fun args => match args with
  | [.agg [.v (.int .i64 k), .v (.int .i64 v), .l _ rows], .v (.int .i64 c)] => some ((∃ ps, rows = pRows (mkL ps c.toNat) ∧ ps.length ≤ 1048576 ∧ sumN ps ≤ 1048576) ∧ 0 ≤ c ∧ c ≤ 549755813888, .v (.int .i64 (mkC (psOf rows) c.toNat : Nat)), [])
  | _ => none
def kst : List (FuncId × Abs) := [(98, ownAbs g_rtMarkS)]
theorem kst_ok : ∀ p ∈ kst, CallOk Try.prog p.1 p.2 := by
  intro p hp
  simp only [kst, List.mem_cons, List.not_mem_nil, or_false] at hp
  rcases hp with rfl
  · exact markRouteS_ok.call
set_option maxRecDepth 100000 in
theorem markStation_ok : OwnOk Try.prog 48 g_markSt := by
  refine OwnOk.of_vc (G := kst) kst_ok mixed Try.func48 (by kernel_rfl) rfl ?_
  intro args B0 cnd r B1 bs hg hc hlive
  unfold g_markSt at hg
  split at hg
  · rename_i a r c T sz rows
    cases hg
    obtain ⟨rfl, rfl, rfl, ⟨l, rfl, hn⟩, hc0, hc1⟩ := hc
    refine ⟨⟨by simp [likeBs, likeB, rtRows_len, rtMks_len], by simp [Blk.liveB, blkIds, AV.ids.idsL, AV.ids], by simp [AV.ids, AV.ids.idsL]⟩, _, rfl, fun w Z s vs h => h, ?_⟩
    clear hlive
    simp (maxSteps := 3000000) only [Try.f48, kst, g_rtMarkS, tYs, evL, implies_true, oMin, oCopy, oBin, oUn, oLoadKid, oStoreTree, oField, oExtract, oNil, oSliceQ, oLen, nodupB, treeOf, kidAbs, kidRows, TK.isCell, D.toL, oLoad, oStore, oMake, oIndexAddr, ↓reduceIte, reduceCtorEq, Nat.reduceBEq, Nat.reduceAdd, Nat.reduceMul, Nat.reduceLT, Nat.reduceSub, Nat.reduceLeDiff, Nat.reduceEqDiff, Nat.reduceBneDiff, Int.reduceToNat, decide_eq_true_eq, decide_eq_false_iff_not, beq_iff_eq, Int.toNat_natCast]
    refine ⟨⟨⟨l, rfl, hn⟩, hc0, hc1⟩, ?_⟩
    exact ⟨[(0, some 0)], ⟨⟨⟨rfl, rfl, rfl⟩, trivial⟩, ⟨.inl rfl, rfl, rfl, rfl, trivial⟩, by simp [rn, hpAt]⟩, by simp [keepIds, rn]⟩
  · cases hg
def edn : List (FuncId × Abs) := [(96, pureAbs g_eqPacketS), (100, ownAbs g_markPacketS), (101, pureAbs g_heldPacketS)]
theorem edn_ok : ∀ p ∈ edn, CallOk Try.prog p.1 p.2 := by
  intro p hp
  simp only [edn, List.mem_cons, List.not_mem_nil, or_false] at hp
  rcases hp with rfl | rfl | rfl
  · exact eqPacketS_ok.call
  · exact markPacketS_ok.call
  · exact heldPacketS_ok.call
set_option maxRecDepth 100000 in
theorem eqDone_ok : PureOk Try.prog 46 g_eqDone := by
  refine PureOk.of_vc (G := edn) edn_ok mixed Try.func46 (by kernel_rfl) rfl ?_
  intro args cnd r bs hg hc
  unfold g_eqDone at hg
  split at hg
  · rename_i k v sz rows k' v' sz' rows'
    cases hg
    obtain ⟨⟨rfl, rfl⟩, ⟨ps, rfl, hm⟩, qs, rfl, hm'⟩ := hc
    rw [psOf_rows, psOf_rows]
    refine ⟨⟨rfl, by simp, by simp [AV.ids, AV.ids.idsL]⟩, [.agg [.v (.int .i64 k), .v (.int .i64 v), .l 9 (pRows ps)], .agg [.v (.int .i64 k), .v (.int .i64 v), .l 9 (pRows qs)]], rfl, fun w vs h => CvL.ok (.cons (.cons (.refl _) (.cons (.refl _) (.cons (.l _ _ _ (pRows_w ps)) .nil))) (.cons (.cons (.refl _) (.cons (.refl _) (.cons (.l _ _ _ (pRows_w qs)) .nil))) .nil)) h, ?_⟩
    simp (maxSteps := 3000000) only [Try.f46, edn, g_eqPacketS, psOf_rows, bne_self_eq_false, Bool.false_eq_true, ↓reduceIte, tYs, evL, implies_true, oMin, oCopy, oBin, oUn, oLoadKid, oStoreTree, oField, oExtract, oNil, oSliceQ, oLen, nodupB, treeOf, kidAbs, kidRows, TK.isCell, D.toL, oLoad, oStore, oMake, oIndexAddr, ↓reduceIte, reduceCtorEq, Nat.reduceBEq, Nat.reduceAdd, Nat.reduceMul, Nat.reduceLT, Nat.reduceSub, Nat.reduceLeDiff, Nat.reduceEqDiff, Nat.reduceBneDiff, Int.reduceToNat, decide_eq_true_eq, decide_eq_false_iff_not, beq_iff_eq, Int.toNat_natCast]
    refine ⟨⟨⟨_, rfl, hm⟩, _, rfl, hm'⟩, ?_⟩
    by_cases h1 : ps = qs
    · rw [if_neg (by simp [h1]), decide_eq_true h1]
      exact ⟨_, [], rfl, ⟨⟨⟨rfl, rfl, rfl⟩, trivial⟩, trivial, by simp [rn, hpAt]⟩⟩
    · rw [if_pos (by simp [h1]), decide_eq_false h1]
      exact ⟨_, [], rfl, ⟨⟨⟨rfl, rfl, rfl⟩, trivial⟩, trivial, by simp [rn, hpAt]⟩⟩
  · cases hg
set_option maxRecDepth 100000 in
theorem markDone_ok : OwnOk Try.prog 50 g_markDone := by
  refine OwnOk.of_vc (G := edn) edn_ok mixed Try.func50 (by kernel_rfl) rfl ?_
  intro args B0 cnd r B1 bs hg hc hlive
  unfold g_markDone at hg
  split at hg
  · rename_i k v r c T sz cols rows
    cases hg
    obtain ⟨rfl, rfl, rfl, rfl, ⟨ps, rfl, hn, hs⟩, hc0, hc1⟩ := hc
    refine ⟨⟨by simp [likeBs, likeB, pRows_len, mkL_len, psOf_rows], by simp [Blk.liveB, blkIds, AV.ids.idsL, AV.ids], by simp [AV.ids, AV.ids.idsL]⟩, _, rfl, fun w Z s vs h => h, ?_⟩
    clear hlive
    simp (maxSteps := 3000000) only [Try.f50, edn, g_markPacketS, tYs, evL, implies_true, oMin, oCopy, oBin, oUn, oLoadKid, oStoreTree, oField, oExtract, oNil, oSliceQ, oLen, nodupB, treeOf, kidAbs, kidRows, TK.isCell, D.toL, oLoad, oStore, oMake, oIndexAddr, ↓reduceIte, reduceCtorEq, Nat.reduceBEq, Nat.reduceAdd, Nat.reduceMul, Nat.reduceLT, Nat.reduceSub, Nat.reduceLeDiff, Nat.reduceEqDiff, Nat.reduceBneDiff, Int.reduceToNat, decide_eq_true_eq, decide_eq_false_iff_not, beq_iff_eq, Int.toNat_natCast]
    refine ⟨⟨⟨ps, rfl, hn, hs⟩, hc0, hc1⟩, ?_⟩
    exact ⟨[(0, some 0)], ⟨⟨⟨rfl, rfl, rfl⟩, trivial⟩, ⟨.inl rfl, rfl, rfl, rfl, trivial⟩, by simp [rn, hpAt]⟩, by simp [keepIds, rn]⟩
  · cases hg
set_option maxRecDepth 100000 in
theorem heldDone_ok : PureOk Try.prog 51 g_heldDone := by
  refine PureOk.of_vc (G := edn) edn_ok mixed Try.func51 (by kernel_rfl) rfl ?_
  intro args cnd r bs hg hc
  unfold g_heldDone at hg
  split at hg
  · rename_i k v sz rows c
    cases hg
    obtain ⟨⟨ps, rfl, hn, hs⟩, hc0, hc1⟩ := hc
    refine ⟨⟨rfl, by simp, by simp [AV.ids, AV.ids.idsL]⟩, [.agg [.v (.int .i64 k), .v (.int .i64 v), .l 9 (pRows (mkL ps c.toNat))], .v (.int .i64 c)], rfl, fun w vs h => CvL.ok (.cons (.cons (.refl _) (.cons (.refl _) (.cons (.l _ _ _ (pRows_w _)) .nil))) (.cons (.refl _) .nil)) h, ?_⟩
    simp (maxSteps := 3000000) only [Try.f51, edn, g_heldPacketS, tYs, evL, implies_true, oMin, oCopy, oBin, oUn, oLoadKid, oStoreTree, oField, oExtract, oNil, oSliceQ, oLen, nodupB, treeOf, kidAbs, kidRows, TK.isCell, D.toL, oLoad, oStore, oMake, oIndexAddr, ↓reduceIte, reduceCtorEq, Nat.reduceBEq, Nat.reduceAdd, Nat.reduceMul, Nat.reduceLT, Nat.reduceSub, Nat.reduceLeDiff, Nat.reduceEqDiff, Nat.reduceBneDiff, Int.reduceToNat, decide_eq_true_eq, decide_eq_false_iff_not, beq_iff_eq, Int.toNat_natCast]
    refine ⟨⟨⟨ps, rfl, hn, hs⟩, hc0, hc1⟩, ?_⟩
    rw [if_neg (by omega)]
    exact ⟨_, [], rfl, ⟨⟨⟨rfl, rfl, rfl⟩, trivial⟩, trivial, by simp [rn, hpAt]⟩⟩
  · cases hg
theorem fw_bd (s : St) (p : Pk) : pMid (fwV s p).ps ∧ (fwV s p).ps.length ≤ 1048576 ∧ sumN (fwV s p).ps ≤ 2304 := by
  have h1 := fw_len s p
  have h2 : ∀ y ∈ (fwV s p).ps, y.d.length ≤ 48 := fun y hy => (ok_h (fw_ok hy).1).2
  have h3 := sumN_le_mul h2
  have h4 := Nat.mul_le_mul_right 48 h1
  exact ⟨⟨by omega, fun y hy => by have := h2 y hy; omega⟩, by omega, by omega⟩
def g_xfw : PC := fun args => match args with
  | [.agg [.v (.int .i64 b), .l _ rr], .agg [.v (.int .i64 f), .v (.int .i64 t), .v (.int .i64 p), .v (.int .i64 h), .v (.int .i64 i), .v (.int .i64 a), .v (.bool m), .v (.bool u), .l _ rows]] => some ((∃ rs, rr = rtRows rs ∧ rs.length ≤ 9223372036854775807) ∧ rows.length ≤ 9223372036854775807 ∧ ∃ xs, rows = rowsOfBytes xs, .v (.bool true), [])
  | _ => none
def xfw : List (FuncId × Abs) := [(41, pureAbs g_szSt), (42, pureAbs g_toSt), (43, pureAbs g_eqSt), (44, pureAbs g_szPacket), (45, pureAbs g_toPacket), (47, pureAbs g_eqPacket), (49, ownAbs g_markPacket), (48, ownAbs g_markSt), (46, pureAbs g_eqDone), (50, ownAbs g_markDone), (51, pureAbs g_heldDone), (22, frzAbs g_fwdD), (20, pureAbs g_fwd)]
theorem xfw_ok : ∀ p ∈ xfw, CallOk Try.prog p.1 p.2 := by
  intro p hp
  simp only [xfw, List.mem_cons, List.not_mem_nil, or_false] at hp
  rcases hp with rfl | rfl | rfl | rfl | rfl | rfl | rfl | rfl | rfl | rfl | rfl | rfl | rfl
  · exact szStation_ok.call
  · exact toStation_ok.call
  · exact eqStation_ok.call
  · exact szPacket_ok.call
  · exact toPacket_ok.call
  · exact eqPacket_ok.call
  · exact markPacket_ok.call
  · exact markStation_ok.call
  · exact eqDone_ok.call
  · exact markDone_ok.call
  · exact heldDone_ok.call
  · exact specForward_ok.callF
  · exact implForward_ok.call
set_option maxHeartbeats 8000000 in
set_option maxRecDepth 100000 in
theorem lawExactForward_ok : PureOk Try.prog 10 g_xfw := by
  refine PureOk.of_vc (G := xfw) xfw_ok mixed Try.func10 (by kernel_rfl) rfl ?_
  intro args cnd r bs hg hc
  unfold g_xfw at hg
  split at hg
  · rename_i b sr rr f t p h i a m u sz rows
    cases hg
    obtain ⟨⟨rs, rfl, hf⟩, hn, xs, rfl⟩ := hc
    rw [rowsOf_len] at hn
    refine ⟨⟨rfl, by simp, by simp [AV.ids, AV.ids.idsL]⟩, [.agg [.v (.int .i64 b), .l 4 (rtRows rs)], .agg [.v (.int .i64 f), .v (.int .i64 t), .v (.int .i64 p), .v (.int .i64 h), .v (.int .i64 i), .v (.int .i64 a), .v (.bool m), .v (.bool u), (.l 1 (rowsOfBytes xs))]], rfl, fun w vs h => CvL.ok (.cons (.cons (.refl _) (.cons (.l _ _ _ (rtRows_w rs)) .nil)) (.cons (.cons (.refl _) (.cons (.refl _) (.cons (.refl _) (.cons (.refl _) (.cons (.refl _) (.cons (.refl _) (.cons (.refl _) (.cons (.refl _) (.cons (.l _ _ _ (rowsOf_w xs)) .nil))))))))) .nil)) h, ?_⟩
    simp (maxSteps := 3000000) only [Try.f10, xfw, g_szSt, g_toSt, g_eqSt, g_markSt, g_szPacket, g_toPacket, g_eqPacket, g_markPacket, g_eqDone, g_markDone, g_heldDone, g_fwdD, g_fwd, stsOf_rows, rtsOf_rows, stRows_len, rtRows_len, rtMks_len, bytesOf_rows, rowsOf_len, marks_len, psOf_rows, pRows_len, mkL_len, mkC_mk, bne_self_eq_false, and_self, decide_true, tYs, evL, implies_true, oMin, oCopy, oBin, oUn, oLoadKid, oStoreTree, oField, oExtract, oNil, oSliceQ, oLen, nodupB, treeOf, kidAbs, kidRows, TK.isCell, D.toL, oLoad, oStore, oMake, oIndexAddr, ↓reduceIte, reduceCtorEq, Nat.reduceBEq, Nat.reduceAdd, Nat.reduceMul, Nat.reduceLT, Nat.reduceSub, Nat.reduceLeDiff, Nat.reduceEqDiff, Nat.reduceBneDiff, Int.reduceToNat, decide_eq_true_eq, decide_eq_false_iff_not, beq_iff_eq, Int.toNat_natCast]
    have hb := szLeft_bd (l := 1048576) (n := rs.length) (by omega)
    refine ⟨⟨by omega, _, rfl, hf⟩, ?_⟩
    by_cases hz : szLeft 1048576 rs.length < 0
    · rw [if_pos hz]
      exact ⟨_, [], rfl, ⟨⟨⟨rfl, rfl, rfl⟩, trivial⟩, trivial, by simp [rn, hpAt]⟩⟩
    rw [if_neg hz]
    have hm := hb.2.2 (by omega)
    have hb2 := szLeft_bd (l := szLeft 1048576 rs.length) (n := xs.length) (by omega)
    refine ⟨⟨by omega, hn, _, rfl⟩, ?_⟩
    by_cases hz2 : szLeft (szLeft 1048576 rs.length) xs.length < 0
    · rw [if_pos hz2]
      exact ⟨_, [], rfl, ⟨⟨⟨rfl, rfl, rfl⟩, trivial⟩, trivial, by simp [rn, hpAt]⟩⟩
    rw [if_neg hz2]
    have hx := hb2.2.2 (by omega)
    clear hz hz2 hb hb2 hn hf
    have hbd := fw_bd ⟨b, rs⟩ ⟨f, t, p, h, i, a, m, u, xs⟩
    obtain ⟨hcm, hcl, hcs⟩ := hbd
    obtain ⟨DD, hD⟩ : ∃ DD, fwV ⟨b, rs⟩ ⟨f, t, p, h, i, a, m, u, xs⟩ = DD := ⟨_, rfl⟩
    rw [hD] at hcm hcl hcs ⊢
    clear hD
    repeat' first
      | refine And.intro ⟨_, rfl, hm⟩ ?_
      | refine And.intro ⟨⟨_, rfl, hm⟩, ⟨_, rfl, hx⟩⟩ ?_
      | refine And.intro ⟨_, rfl, hcm⟩ ?_
      | refine And.intro ⟨_, rfl, by omega⟩ ?_
      | refine And.intro ⟨⟨_, rfl, by omega⟩, by omega, by omega⟩ ?_
      | refine And.intro ⟨⟨_, rfl⟩, by omega, by omega, by omega⟩ ?_
      | refine And.intro ⟨⟨_, rfl, hcl, by omega⟩, by omega, by omega⟩ ?_
      | refine And.intro (by kernel_rfl) ?_
      | rw [if_neg (by omega)]
      | rw [if_pos (by omega)]
    exact ⟨_, [], rfl, ⟨⟨⟨rfl, rfl, rfl⟩, trivial⟩, trivial, by simp [rn, hpAt]⟩⟩
  · cases hg
theorem walk_ExactForward (cs : Array Value) (ds : List D) (cs' : Array Value) (ds' : List D) (w : World) (H : Reads w stKinds ds cs.toList) (H' : Reads w packetKinds ds' cs'.toList) :
    Calls Try.prog 10 #[.agg cs, .agg cs'] w fun e w' => e = .returned (.bool true) ∧ Below w.heap.size w w' := by
  obtain ⟨a, rs, hr, hf⟩ := st_in H
  obtain ⟨f, t, p, h, i, a, m, u, xs, hr', hf'⟩ := packet_in H'
  exact lawExactForward_ok.walk (vs := [_, _]) (arel_cons hr (arel_cons hr' arel_nil)) rfl ⟨⟨_, rfl, hf⟩, by rw [rowsOf_len]; exact hf', _, rfl⟩
end Go.Proofs.Ythbcoakimbpkgaa
