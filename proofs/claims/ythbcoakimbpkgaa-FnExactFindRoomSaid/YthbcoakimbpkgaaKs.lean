import Derived.Test.YthbcoakimbpkgaaYf
import Derived.Test.YthbcoakimbpkgaaTp
import Derived.Test.YthbcoakimbpkgaaR7
import Derived.Test.YthbcoakimbpkgaaKj
import Derived.Test.YthbcoakimbpkgaaXm
namespace Go.Proofs.Ythbcoakimbpkgaa
open Go.RowKit
set_option linter.unusedSimpArgs false
set_option linter.unusedVariables false
def rtKinds : List KD := [.int .i64, .int .i64, .int .i64, .int .i64]
end Go.Proofs.Ythbcoakimbpkgaa
set_option linter.unusedVariables false
set_option linter.unusedSimpArgs false
namespace Go.Proofs.Ythbcoakimbpkgaa
open Go.RowKit
set_option linter.unusedSimpArgs false
theorem St_eq (x y : St) : x = y ↔ x.a = y.a ∧ x.rs = y.rs := by
  cases x; cases y; simp
instance : DecidableEq RE := fun x y => decidable_of_iff _ rtEq_iff
instance : DecidableEq St := fun x y => decidable_of_iff _ (St_eq x y).symm
def szSt (x : St) (l : Int) : Int := szLeft l x.rs.length
def szStS (xs : List St) (l : Int) : Int := if szLeft l xs.length < 0 then -1 else szF szSt xs (szLeft l xs.length)
def sFin (l : List St) : Prop := l.length ≤ 9223372036854775807 ∧ ∀ x ∈ l, x.rs.length ≤ 9223372036854775807
theorem szStS_bd (xs : List St) (l : Int) (hl : 0 ≤ l ∧ l ≤ 1048576) : -1 ≤ szStS xs l ∧ szStS xs l ≤ 1048576 ∧ (0 ≤ szStS xs l → sMid xs) := by
  have hb := szLeft_bd (n := xs.length) hl
  unfold szStS
  split
  · exact ⟨by omega, by omega, fun h => by omega⟩
  · obtain ⟨h1, h2, h3⟩ := szF_bd (f := szSt) (P := fun x => x.rs.length ≤ 1048576) xs (fun x _ l hl => by
      have := szLeft_bd (n := x.rs.length) hl
      simp only [szSt]
      omega) (szLeft l xs.length) (by omega)
    exact ⟨h1, h2, fun h0 => ⟨by omega, h3 h0⟩⟩
def sz0 : List D := [D.v (.int .i64 0), D.l 4 []]
theorem st_seen (l : List St) : SeenAs 2 [.cell, .sl 56 4 [.cell, .cell, .cell, .cell]] (List.replicate l.length [D.v (.int .i64 0), D.v (.slice none 0 0)]) (stRows (l.take 0) ++ List.replicate (l.length - 0) sz0) := by
  rw [List.take_zero, Nat.sub_zero]
  exact SeenAs.rep (n := l.length) (b := sz0) ⟨⟨rfl, _, rfl⟩, ⟨rfl, rfl, by decide, rfl⟩, trivial⟩ rfl
def g_szSt : PC := fun args => match args with
  | [.agg [.v (.int .i64 a), .l _ rows], .v (.int .i64 l)] => some ((0 ≤ l ∧ l ≤ 1048576) ∧ ∃ rs, rows = rtRows rs ∧ rs.length ≤ 9223372036854775807, .v (.int .i64 (szLeft l rows.length)), [])
  | _ => none
def g_szStS : PC := fun args => match args with
  | [.l _ rows, .v (.int .i64 l)] => some ((0 ≤ l ∧ l ≤ 1048576) ∧ ∃ xs, rows = stRows xs ∧ sFin xs, .v (.int .i64 (szStS (stsOf rows) l)), [])
  | _ => none
def g_toSt : PC := fun args => match args with
  | [.agg [.v (.int .i64 a), .l _ rows]] => some (∃ rs, rows = rtRows rs ∧ rs.length ≤ 1048576, .agg [.v (.int .i64 a), .own 0], [.sl 56 4 rows])
  | _ => none
def g_toStT : PC := fun args => match args with
  | [.agg [.v (.int .i64 a), .l _ rows]] => some (∃ rs, rows = rtRows rs ∧ rs.length ≤ 1048576, .agg [.v (.int .i64 a), .own 0], [.tr .whole 56 4 [.cell, .cell, .cell, .cell] rows])
  | _ => none
def g_toStS : PC := fun args => match args with
  | [.l _ rows] => some (∃ l, rows = stRows l ∧ sMid l, .own 0, [.tr .whole 25 2 [.cell, .sl 56 4 [.cell, .cell, .cell, .cell]] rows])
  | _ => none
def g_eqSt : PC := fun args => match args with
  | [.agg [.v (.int .i64 a), .l _ rows], .agg [.v (.int .i64 a'), .l _ rows']] => some ((∃ l, rows = rtRows l ∧ l.length ≤ 1048576) ∧ ∃ l, rows' = rtRows l ∧ l.length ≤ 1048576, .v (.bool (decide (a = a' ∧ rtsOf rows = rtsOf rows'))), [])
  | _ => none
def g_eqStS : PC := fun args => match args with
  | [.l _ rows, .l _ rows'] => some ((∃ l, rows = stRows l ∧ sMid l) ∧ ∃ r, rows' = stRows r ∧ sMid r, .v (.bool (decide (stsOf rows = stsOf rows'))), [])
  | _ => none
def zst : List (FuncId × Abs) := [(91, pureAbs g_szS)]
theorem zst_ok : ∀ p ∈ zst, CallOk Try.prog p.1 p.2 := by
  intro p hp
  simp only [zst, List.mem_cons, List.not_mem_nil, or_false] at hp
  rcases hp with rfl
  · exact szRouteS_ok.call
set_option maxRecDepth 100000 in
theorem szStation_ok : PureOk Try.prog 41 g_szSt := by
  refine PureOk.of_vc (G := zst) zst_ok mixed Try.func41 (by kernel_rfl) rfl ?_
  intro args cnd r bs hg hc
  unfold g_szSt at hg
  split at hg
  · rename_i a sz rows l0
    cases hg
    obtain ⟨hl, rs, rfl, hf⟩ := hc
    rw [rtRows_len]
    have hb := szLeft_bd (n := rs.length) hl
    refine ⟨⟨rfl, by simp, by simp [AV.ids, AV.ids.idsL]⟩, [.agg [.v (.int .i64 a), .l 4 (rtRows rs)], .v (.int .i64 l0)], rfl, fun w vs h => CvL.ok (.cons (.cons (.refl _) (.cons (.l _ _ _ (rtRows_w rs)) .nil)) (.cons (.refl _) .nil)) h, ?_⟩
    simp (maxSteps := 3000000) only [Try.f41, zst, g_szS, rtRows_len, tYs, evL, implies_true, oMin, oCopy, oBin, oUn, oLoadKid, oStoreTree, oField, oExtract, oNil, oSliceQ, oLen, nodupB, treeOf, kidAbs, kidRows, TK.isCell, D.toL, oLoad, oStore, oMake, oIndexAddr, ↓reduceIte, reduceCtorEq, Nat.reduceBEq, Nat.reduceAdd, Nat.reduceMul, Nat.reduceLT, Nat.reduceSub, Nat.reduceLeDiff, Nat.reduceEqDiff, Nat.reduceBneDiff, Int.reduceToNat, decide_eq_true_eq, decide_eq_false_iff_not, beq_iff_eq, Int.toNat_natCast]
    refine ⟨⟨hl, hf, 4, rtRows_w rs⟩, ?_⟩
    by_cases hz : szLeft l0 rs.length < 0
    · have e : szLeft l0 rs.length = -1 := by omega
      rw [if_pos hz, e]
      exact ⟨_, [], rfl, ⟨⟨⟨rfl, rfl, rfl⟩, trivial⟩, trivial, by simp [rn, hpAt]⟩⟩
    · rw [if_neg hz]
      exact ⟨_, [], rfl, ⟨⟨⟨rfl, rfl, rfl⟩, trivial⟩, trivial, by simp [rn, hpAt]⟩⟩
  · cases hg
def zss : List (FuncId × Abs) := [(41, pureAbs g_szSt)]
theorem zss_ok : ∀ p ∈ zss, CallOk Try.prog p.1 p.2 := by
  intro p hp
  simp only [zss, List.mem_cons, List.not_mem_nil, or_false] at hp
  rcases hp with rfl
  · exact szStation_ok.call
set_option maxRecDepth 100000 in
theorem szStationS_ok : PureOk Try.prog 52 g_szStS := by
  refine PureOk.of_vc (G := zss) zss_ok mixed Try.func52 (by kernel_rfl) rfl ?_
  intro args cnd r bs hg hc
  unfold g_szStS at hg
  split at hg
  · rename_i sz rows l0
    cases hg
    obtain ⟨hl, l, rfl, hf1, hf2⟩ := hc
    rw [stsOf_rows]
    have hb := szLeft_bd (n := l.length) hl
    have e0 := szLeft_eq hl hf1
    have w0 : IntKind.i64.wrap (l0 - (l.length : Int)) = l0 - (l.length : Int) := wrap_id (by omega) (by omega)
    refine ⟨⟨rfl, by simp, by simp [AV.ids, AV.ids.idsL]⟩, [.l 2 (stRows l), .v (.int .i64 l0)], rfl, fun w vs h => CvL.ok (.cons (.l _ _ _ (stRows_w l)) (.cons (.refl _) .nil)) h, ?_⟩
    simp (maxSteps := 3000000) only [Try.f52, zss, stRows_len, w0, tYs, evL, implies_true, oMin, oCopy, oBin, oUn, oLoadKid, oStoreTree, oField, oExtract, oNil, oSliceQ, oLen, nodupB, treeOf, kidAbs, kidRows, TK.isCell, D.toL, oLoad, oStore, oMake, oIndexAddr, ↓reduceIte, reduceCtorEq, Nat.reduceBEq, Nat.reduceAdd, Nat.reduceMul, Nat.reduceLT, Nat.reduceSub, Nat.reduceLeDiff, Nat.reduceEqDiff, Nat.reduceBneDiff, Int.reduceToNat, decide_eq_true_eq, decide_eq_false_iff_not, beq_iff_eq, Int.toNat_natCast]
    rw [w0] at e0
    by_cases h0 : l0 - (l.length : Int) < 0
    · rw [if_pos h0]
      rw [if_pos h0] at e0
      have e : szStS l l0 = -1 := by rw [szStS, e0]; rfl
      rw [e]
      exact ⟨_, [], rfl, ⟨⟨⟨rfl, rfl, rfl⟩, trivial⟩, trivial, by simp [rn, hpAt]⟩⟩
    · rw [if_neg h0]
      rw [if_neg h0] at e0
      have e : szStS l l0 = szF szSt l (l0 - l.length) := by rw [szStS, e0, if_neg h0]
      rw [e]
      refine e_loop _ _ _ _ _ _ _ _ (fun x : Nat × Int => [.l 2 (stRows l), .v (.int .i64 x.2), .any, .any, .any, .v (.int .i64 (x.1 : Int))] ++ List.replicate (Try.f52.ntmps - 6) .any) (fun x => []) (fun x => x.1 ≤ l.length ∧ (0 ≤ x.2 ∧ x.2 ≤ 1048576) ∧ szF szSt l (l0 - l.length) = szF szSt (l.drop x.1) x.2) (fun x => l.length - x.1) 0 (fun x => by simp) ?_ fun x hk' => ?_
      · exact ⟨(0, l0 - l.length), [], ⟨Nat.zero_le _, ⟨by dsimp only; omega, by dsimp only; omega⟩, rfl⟩, ⟨⟨⟨rfl, rfl, rfl⟩, ⟨rfl, rfl, rfl⟩, trivial, trivial, trivial, ⟨rfl, rfl, rfl⟩, fitT_rep _ _ rfl⟩, trivial, by simp [rn, hpAt]⟩, by simp [keepIds]⟩
      obtain ⟨k, m⟩ := x
      obtain ⟨hk1, hm, hinv⟩ := hk'
      dsimp only at hk1 hm hinv
      have w2 : IntKind.i64.wrap ((k : Int) + 1) = ((k + 1 : Nat) : Int) := by rw [wrap_id] <;> omega
      by_cases hk : k < l.length
      · have hrow := stRows_get l k hk
        have hlt : ((k : Int) < (l.length : Int)) = True := eq_true (by omega)
        have h0 : (0 ≤ (k : Int)) = True := eq_true (by omega)
        have hfk := hf2 l[k] (List.getElem_mem hk)
        have hb2 := szLeft_bd (n := l[k].rs.length) hm
        rw [drop_at _ _ hk, szF] at hinv
        simp (maxSteps := 3000000) only [Try.f52, zss, stRows_len, rtRows_len, stsOf_rows, rtsOf_rows, g_szSt, hrow, hlt, h0, D.toI, dB, D.toB, D.toL, stRow, tYs, evL, implies_true, oMin, oCopy, oBin, oUn, oLoadKid, oStoreTree, oField, oExtract, oNil, oSliceQ, oLen, nodupB, treeOf, kidAbs, kidRows, TK.isCell, D.toL, oLoad, oStore, oMake, oIndexAddr, ↓reduceIte, reduceCtorEq, Nat.reduceBEq, Nat.reduceAdd, Nat.reduceMul, Nat.reduceLT, Nat.reduceSub, Nat.reduceLeDiff, Nat.reduceEqDiff, Nat.reduceBneDiff, Int.reduceToNat, decide_eq_true_eq, decide_eq_false_iff_not, beq_iff_eq, Int.toNat_natCast, loopK_normal, loopK_exit, loopK_ret, w2]
        refine ⟨⟨hm, _, rfl, hfk⟩, ?_⟩
        by_cases hz : szLeft m l[k].rs.length < 0
        · rw [if_pos hz]
          rw [if_pos (show szSt l[k] m < 0 from hz)] at hinv
          rw [hinv]
          exact ⟨_, [], rfl, ⟨⟨⟨rfl, rfl, rfl⟩, trivial⟩, trivial, by simp [rn, hpAt]⟩⟩
        · rw [if_neg hz]
          rw [if_neg (show ¬ szSt l[k] m < 0 from hz)] at hinv
          exact ⟨(k + 1, szLeft m l[k].rs.length), [], ⟨by dsimp only; omega, ⟨by dsimp only; omega, by dsimp only; omega⟩, hinv⟩, by dsimp only; omega, ⟨⟨⟨rfl, rfl, rfl⟩, ⟨rfl, rfl, rfl⟩, trivial, trivial, trivial, ⟨rfl, rfl, rfl⟩, fitT_rep _ _ rfl⟩, trivial, by simp [rn, hpAt]⟩, by simp [keepIds]⟩
      · have hlt : ((k : Int) < (l.length : Int)) = False := eq_false (by omega)
        simp (maxSteps := 3000000) only [Try.f52, zss, stRows_len, rtRows_len, stsOf_rows, rtsOf_rows, hlt, D.toI, dB, D.toB, D.toL, stRow, tYs, evL, implies_true, oMin, oCopy, oBin, oUn, oLoadKid, oStoreTree, oField, oExtract, oNil, oSliceQ, oLen, nodupB, treeOf, kidAbs, kidRows, TK.isCell, D.toL, oLoad, oStore, oMake, oIndexAddr, ↓reduceIte, reduceCtorEq, Nat.reduceBEq, Nat.reduceAdd, Nat.reduceMul, Nat.reduceLT, Nat.reduceSub, Nat.reduceLeDiff, Nat.reduceEqDiff, Nat.reduceBneDiff, Int.reduceToNat, decide_eq_true_eq, decide_eq_false_iff_not, beq_iff_eq, Int.toNat_natCast, loopK_normal, loopK_exit, loopK_ret, w2]
        rw [List.drop_eq_nil_of_le (by omega), szF] at hinv
        rw [hinv]
        exact ⟨_, [], rfl, ⟨⟨⟨rfl, rfl, rfl⟩, trivial⟩, trivial, by simp [rn, hpAt]⟩⟩
  · cases hg
def tst : List (FuncId × Abs) := [(92, pureAbs g_rtToS)]
theorem tst_ok : ∀ p ∈ tst, CallOk Try.prog p.1 p.2 := by
  intro p hp
  simp only [tst, List.mem_cons, List.not_mem_nil, or_false] at hp
  rcases hp with rfl
  · exact toRouteS_ok.call
set_option maxRecDepth 100000 in
theorem toStation_ok : PureOk Try.prog 42 g_toSt := by
  refine PureOk.of_vc (G := tst) tst_ok mixed Try.func42 (by kernel_rfl) rfl ?_
  intro args cnd r bs hg hc
  unfold g_toSt at hg
  split at hg
  · rename_i a sz rows
    cases hg
    obtain ⟨rs, rfl, hm⟩ := hc
    refine ⟨⟨rfl, by simp [flatB, rtRows, rtRow], by simp [AV.ids, AV.ids.idsL]⟩, [.agg [.v (.int .i64 a), .l 4 (rtRows rs)]], rfl, fun w vs h => CvL.ok (.cons (.cons (.refl _) (.cons (.l _ _ _ (rtRows_w rs)) .nil)) .nil) h, ?_⟩
    simp (maxSteps := 3000000) only [Try.f42, tst, g_rtToS, tYs, evL, implies_true, oMin, oCopy, oBin, oUn, oLoadKid, oStoreTree, oField, oExtract, oNil, oSliceQ, oLen, nodupB, treeOf, kidAbs, kidRows, TK.isCell, D.toL, oLoad, oStore, oMake, oIndexAddr, ↓reduceIte, reduceCtorEq, Nat.reduceBEq, Nat.reduceAdd, Nat.reduceMul, Nat.reduceLT, Nat.reduceSub, Nat.reduceLeDiff, Nat.reduceEqDiff, Nat.reduceBneDiff, Int.reduceToNat, decide_eq_true_eq, decide_eq_false_iff_not, beq_iff_eq, Int.toNat_natCast]
    exact ⟨⟨_, rfl, by omega⟩, _, [(0, some _)], rfl, ⟨⟨⟨rfl, rfl, rfl⟩, trivial⟩, ⟨.inl rfl, rfl, rfl, rfl, trivial⟩, by simp [rn, hpAt]⟩⟩
  · cases hg
theorem toStationT_ok : PureOk Try.prog 42 g_toStT := toStation_ok.toTree fun args c r bs' h => by
  unfold g_toStT at h
  split at h
  · cases h; exact ⟨_, rfl, rfl⟩
  · cases h
def tss : List (FuncId × Abs) := [(42, pureAbs g_toStT)]
theorem tss_ok : ∀ p ∈ tss, CallOk Try.prog p.1 p.2 := by
  intro p hp
  simp only [tss, List.mem_cons, List.not_mem_nil, or_false] at hp
  rcases hp with rfl
  · exact toStationT_ok.call
set_option maxRecDepth 100000 in
theorem toStationS_ok : PureOk Try.prog 53 g_toStS := by
  refine PureOk.of_vc (G := tss) tss_ok mixed Try.func53 (by kernel_rfl) rfl ?_
  intro args cnd r bs hg hc
  unfold g_toStS at hg
  split at hg
  · rename_i sz rows
    cases hg
    obtain ⟨l, rfl, hn, hd⟩ := hc
    refine ⟨⟨rfl, by simp [flatB], by simp [AV.ids, AV.ids.idsL]⟩, [.l 2 (stRows l)], rfl, fun w vs h => CvL.ok (.cons (.l _ _ _ (stRows_w l)) .nil) h, ?_⟩
    simp (maxSteps := 3000000) only [Try.f53, tss, stRows_len, tYs, evL, implies_true, oMin, oCopy, oBin, oUn, oLoadKid, oStoreTree, oField, oExtract, oNil, oSliceQ, oLen, nodupB, treeOf, kidAbs, kidRows, TK.isCell, D.toL, oLoad, oStore, oMake, oIndexAddr, ↓reduceIte, reduceCtorEq, Nat.reduceBEq, Nat.reduceAdd, Nat.reduceMul, Nat.reduceLT, Nat.reduceSub, Nat.reduceLeDiff, Nat.reduceEqDiff, Nat.reduceBneDiff, Int.reduceToNat, decide_eq_true_eq, decide_eq_false_iff_not, beq_iff_eq, Int.toNat_natCast]
    refine ⟨by omega, ?_⟩
    refine e_loop _ _ _ _ _ _ _ _ (fun k : Nat => [.l 2 (stRows l), .any, .any, .own 0, .v (.int .i64 (k : Int))] ++ List.replicate (Try.f53.ntmps - 5) .any) (fun k => [(0, .tr .whole 25 2 [.cell, .sl 56 4 [.cell, .cell, .cell, .cell]] (stRows (l.take k) ++ List.replicate (l.length - k) sz0))]) (fun k => k ≤ l.length) (fun k => l.length - k) 1 (fun k => by simp) ?_ fun k hk' => ?_
    · exact ⟨0, [(0, some _)], Nat.zero_le _, ⟨⟨⟨rfl, rfl, rfl⟩, trivial, trivial, ⟨rfl, rfl, rfl⟩, ⟨rfl, rfl, rfl⟩, fitT_rep _ _ rfl⟩, ⟨.inr (.inr ⟨_, rfl, st_seen l⟩), rfl, rfl, rfl, trivial⟩, by simp [rn, hpAt]⟩, by simp [keepIds]⟩
    have w2 : IntKind.i64.wrap ((k : Int) + 1) = ((k + 1 : Nat) : Int) := by rw [wrap_id] <;> omega
    by_cases hk : k < l.length
    · have hrow := stRows_get l k hk
      have hlt : ((k : Int) < (l.length : Int)) = True := eq_true (by omega)
      have h0 : (0 ≤ (k : Int)) = True := eq_true (by omega)
      have hx := hd l[k] (List.getElem_mem hk)
      have hln : (stRows (l.take k) ++ List.replicate (l.length - k) sz0).length = l.length := by rw [List.length_append, stRows_len, List.length_take, List.length_replicate]; omega
      have hdr : List.drop 2 ((stRows (l.take k) ++ List.replicate (l.length - k) sz0).getD k []) = [] := by
        rw [List.getD_eq_getElem?_getD, List.getElem?_append_right (by rw [stRows_len, List.length_take]; omega), List.getElem?_replicate, if_pos (by rw [stRows_len, List.length_take]; omega)]
        rfl
      have hset : (stRows (l.take k) ++ List.replicate (l.length - k) sz0).set k (stRow l[k]) = stRows (l.take (k + 1)) ++ List.replicate (l.length - (k + 1)) sz0 := by
        rw [← stRows_take, ← stRows_take]
        exact fill_row (stRows_len l).symm (by simp [stRows, hk]) _
      rw [stRow] at hset
      simp (maxSteps := 3000000) only [Try.f53, tss, stRows_len, rtRows_len, stsOf_rows, rtsOf_rows, g_toStT, hrow, hlt, h0, hln, hdr, hset, D.toI, dB, D.toB, D.toL, stRow, tYs, evL, implies_true, oMin, oCopy, oBin, oUn, oLoadKid, oStoreTree, oField, oExtract, oNil, oSliceQ, oLen, nodupB, treeOf, kidAbs, kidRows, TK.isCell, D.toL, oLoad, oStore, oMake, oIndexAddr, ↓reduceIte, reduceCtorEq, Nat.reduceBEq, Nat.reduceAdd, Nat.reduceMul, Nat.reduceLT, Nat.reduceSub, Nat.reduceLeDiff, Nat.reduceEqDiff, Nat.reduceBneDiff, Int.reduceToNat, decide_eq_true_eq, decide_eq_false_iff_not, beq_iff_eq, Int.toNat_natCast, loopK_normal, loopK_exit, loopK_ret, w2]
      exact ⟨⟨_, rfl, hx⟩, hk, k + 1, [(0, some _)], by omega, by omega, ⟨⟨⟨rfl, rfl, rfl⟩, trivial, trivial, ⟨rfl, rfl, rfl⟩, ⟨rfl, rfl, rfl⟩, fitT_rep _ _ rfl⟩, ⟨.inl rfl, rfl, rfl, rfl, trivial⟩, by simp [rn, hpAt]⟩, by simp [keepIds]⟩
    · have hlt : ((k : Int) < (l.length : Int)) = False := eq_false (by omega)
      simp (maxSteps := 3000000) only [Try.f53, tss, stRows_len, rtRows_len, stsOf_rows, rtsOf_rows, hlt, D.toI, dB, D.toB, D.toL, stRow, tYs, evL, implies_true, oMin, oCopy, oBin, oUn, oLoadKid, oStoreTree, oField, oExtract, oNil, oSliceQ, oLen, nodupB, treeOf, kidAbs, kidRows, TK.isCell, D.toL, oLoad, oStore, oMake, oIndexAddr, ↓reduceIte, reduceCtorEq, Nat.reduceBEq, Nat.reduceAdd, Nat.reduceMul, Nat.reduceLT, Nat.reduceSub, Nat.reduceLeDiff, Nat.reduceEqDiff, Nat.reduceBneDiff, Int.reduceToNat, decide_eq_true_eq, decide_eq_false_iff_not, beq_iff_eq, Int.toNat_natCast, loopK_normal, loopK_exit, loopK_ret, w2]
      obtain rfl : k = l.length := by omega
      have e : stRows (l.take l.length) ++ List.replicate (l.length - l.length) sz0 = stRows l := by rw [List.take_length, Nat.sub_self]; simp
      rw [e]
      exact ⟨_, [(0, some _)], rfl, ⟨⟨⟨rfl, rfl, rfl⟩, trivial⟩, ⟨.inl rfl, rfl, rfl, rfl, trivial⟩, by simp [rn, hpAt]⟩⟩
  · cases hg
def est : List (FuncId × Abs) := [(93, pureAbs g_rtEqS)]
theorem est_ok : ∀ p ∈ est, CallOk Try.prog p.1 p.2 := by
  intro p hp
  simp only [est, List.mem_cons, List.not_mem_nil, or_false] at hp
  rcases hp with rfl
  · exact eqRouteS_ok.call
set_option maxRecDepth 100000 in
theorem eqStation_ok : PureOk Try.prog 43 g_eqSt := by
  refine PureOk.of_vc (G := est) est_ok mixed Try.func43 (by kernel_rfl) rfl ?_
  intro args cnd r bs hg hc
  unfold g_eqSt at hg
  split at hg
  · rename_i a sz rows a' sz' rows'
    cases hg
    obtain ⟨⟨rs, rfl, hm⟩, qs, rfl, hm'⟩ := hc
    rw [rtsOf_rows, rtsOf_rows]
    have hq : rtEqs rs qs = decide (rs = qs) := by rw [Bool.eq_iff_iff, decide_eq_true_eq]; exact rtEqs_iff
    refine ⟨⟨rfl, by simp, by simp [AV.ids, AV.ids.idsL]⟩, [.agg [.v (.int .i64 a), .l 4 (rtRows rs)], .agg [.v (.int .i64 a'), .l 4 (rtRows qs)]], rfl, fun w vs h => CvL.ok (.cons (.cons (.refl _) (.cons (.l _ _ _ (rtRows_w rs)) .nil)) (.cons (.cons (.refl _) (.cons (.l _ _ _ (rtRows_w qs)) .nil)) .nil)) h, ?_⟩
    simp (maxSteps := 3000000) only [Try.f43, est, g_rtEqS, rtsOf_rows, hq, tYs, evL, implies_true, oMin, oCopy, oBin, oUn, oLoadKid, oStoreTree, oField, oExtract, oNil, oSliceQ, oLen, nodupB, treeOf, kidAbs, kidRows, TK.isCell, D.toL, oLoad, oStore, oMake, oIndexAddr, ↓reduceIte, reduceCtorEq, Nat.reduceBEq, Nat.reduceAdd, Nat.reduceMul, Nat.reduceLT, Nat.reduceSub, Nat.reduceLeDiff, Nat.reduceEqDiff, Nat.reduceBneDiff, Int.reduceToNat, decide_eq_true_eq, decide_eq_false_iff_not, beq_iff_eq, Int.toNat_natCast]
    by_cases h1 : a = a'
    · rw [if_neg (by simp [h1])]
      refine ⟨⟨⟨_, rfl, by omega⟩, _, rfl, by omega⟩, ?_⟩
      by_cases h2 : rs = qs
      · rw [if_neg (by simp [h2]), decide_eq_true ⟨h1, h2⟩]
        exact ⟨_, [], rfl, ⟨⟨⟨rfl, rfl, rfl⟩, trivial⟩, trivial, by simp [rn, hpAt]⟩⟩
      · rw [if_pos (by simpa using h2), decide_eq_false (fun h => h2 h.2)]
        exact ⟨_, [], rfl, ⟨⟨⟨rfl, rfl, rfl⟩, trivial⟩, trivial, by simp [rn, hpAt]⟩⟩
    · rw [if_pos (by simp [h1]), decide_eq_false (fun h => h1 h.1)]
      exact ⟨_, [], rfl, ⟨⟨⟨rfl, rfl, rfl⟩, trivial⟩, trivial, by simp [rn, hpAt]⟩⟩
  · cases hg
def ess : List (FuncId × Abs) := [(43, pureAbs g_eqSt)]
theorem ess_ok : ∀ p ∈ ess, CallOk Try.prog p.1 p.2 := by
  intro p hp
  simp only [ess, List.mem_cons, List.not_mem_nil, or_false] at hp
  rcases hp with rfl
  · exact eqStation_ok.call
set_option maxRecDepth 100000 in
theorem eqStationS_ok : PureOk Try.prog 54 g_eqStS := by
  refine PureOk.of_vc (G := ess) ess_ok mixed Try.func54 (by kernel_rfl) rfl ?_
  intro args cnd r bs hg hc
  unfold g_eqStS at hg
  split at hg
  · rename_i sz rows sz' rows'
    cases hg
    obtain ⟨⟨l, rfl, hn, hd⟩, r, rfl, hn', hd'⟩ := hc
    rw [stsOf_rows, stsOf_rows]
    have no : l ≠ r → (decide (l = r)) = false := fun e => by simp [e]
    refine ⟨⟨rfl, by simp, by simp [AV.ids, AV.ids.idsL]⟩, [.l 2 (stRows l), .l 2 (stRows r)], rfl, fun w vs h => CvL.ok (.cons (.l _ _ _ (stRows_w l)) (.cons (.l _ _ _ (stRows_w r)) .nil)) h, ?_⟩
    simp (maxSteps := 3000000) only [Try.f54, ess, stRows_len, tYs, evL, implies_true, oMin, oCopy, oBin, oUn, oLoadKid, oStoreTree, oField, oExtract, oNil, oSliceQ, oLen, nodupB, treeOf, kidAbs, kidRows, TK.isCell, D.toL, oLoad, oStore, oMake, oIndexAddr, ↓reduceIte, reduceCtorEq, Nat.reduceBEq, Nat.reduceAdd, Nat.reduceMul, Nat.reduceLT, Nat.reduceSub, Nat.reduceLeDiff, Nat.reduceEqDiff, Nat.reduceBneDiff, Int.reduceToNat, decide_eq_true_eq, decide_eq_false_iff_not, beq_iff_eq, Int.toNat_natCast]
    by_cases hll : l.length = r.length
    · rw [if_neg (by simp [hll])]
      refine e_loop _ _ _ _ _ _ _ _ (fun k : Nat => [.l 2 (stRows l), .l 2 (stRows r), .any, .any, .any, .v (.int .i64 (k : Int))] ++ List.replicate (Try.f54.ntmps - 6) .any) (fun k => []) (fun k => k ≤ l.length ∧ l.take k = r.take k) (fun k => l.length - k) 0 (fun k => by simp) ?_ fun k hk' => ?_
      · exact ⟨0, [], ⟨Nat.zero_le _, rfl⟩, ⟨⟨⟨rfl, rfl, rfl⟩, ⟨rfl, rfl, rfl⟩, trivial, trivial, trivial, ⟨rfl, rfl, rfl⟩, fitT_rep _ _ rfl⟩, trivial, by simp [rn, hpAt]⟩, by simp [keepIds]⟩
      obtain ⟨hk1, hk2⟩ := hk'
      have w2 : IntKind.i64.wrap ((k : Int) + 1) = ((k + 1 : Nat) : Int) := by rw [wrap_id] <;> omega
      by_cases hk : k < l.length
      · have hky : k < r.length := by omega
        have hrow := stRows_get l k hk
        have hrow' := stRows_get r k hky
        have hlt : ((k : Int) < (l.length : Int)) = True := eq_true (by omega)
        have hlt' : ((k : Int) < (r.length : Int)) = True := eq_true (by omega)
        have h0 : (0 ≤ (k : Int)) = True := eq_true (by omega)
        have hx := hd l[k] (List.getElem_mem hk)
        have hx' := hd' r[k] (List.getElem_mem hky)
        have hte := take_eq hk hky
        simp (maxSteps := 3000000) only [Try.f54, ess, stRows_len, rtRows_len, stsOf_rows, rtsOf_rows, g_eqSt, rtsOf_rows, hrow, hrow', hlt, hlt', h0, D.toI, dB, D.toB, D.toL, stRow, tYs, evL, implies_true, oMin, oCopy, oBin, oUn, oLoadKid, oStoreTree, oField, oExtract, oNil, oSliceQ, oLen, nodupB, treeOf, kidAbs, kidRows, TK.isCell, D.toL, oLoad, oStore, oMake, oIndexAddr, ↓reduceIte, reduceCtorEq, Nat.reduceBEq, Nat.reduceAdd, Nat.reduceMul, Nat.reduceLT, Nat.reduceSub, Nat.reduceLeDiff, Nat.reduceEqDiff, Nat.reduceBneDiff, Int.reduceToNat, decide_eq_true_eq, decide_eq_false_iff_not, beq_iff_eq, Int.toNat_natCast, loopK_normal, loopK_exit, loopK_ret, w2]
        refine ⟨⟨⟨_, rfl, hx⟩, _, rfl, hx'⟩, by kernel_rfl, ?_⟩
        by_cases he : l[k] = r[k]
        · rw [if_neg (by rw [Bool.not_eq_true, Bool.not_eq_false', decide_eq_true_eq]; exact (St_eq _ _).1 he)]
          exact ⟨k + 1, [], ⟨by omega, hte.2 ⟨hk2, he⟩⟩, by omega, ⟨⟨⟨rfl, rfl, rfl⟩, ⟨rfl, rfl, rfl⟩, trivial, trivial, trivial, ⟨rfl, rfl, rfl⟩, fitT_rep _ _ rfl⟩, trivial, by simp [rn, hpAt]⟩, by simp [keepIds]⟩
        · rw [if_pos (by rw [Bool.not_eq_true', decide_eq_false_iff_not]; exact fun h => he ((St_eq _ _).2 h)), no (fun e => he (by subst e; rfl))]
          exact ⟨_, [], rfl, ⟨⟨⟨rfl, rfl, rfl⟩, trivial⟩, trivial, by simp [rn, hpAt]⟩⟩
      · have hlt : ((k : Int) < (l.length : Int)) = False := eq_false (by omega)
        simp (maxSteps := 3000000) only [Try.f54, ess, stRows_len, rtRows_len, stsOf_rows, rtsOf_rows, hlt, D.toI, dB, D.toB, D.toL, stRow, tYs, evL, implies_true, oMin, oCopy, oBin, oUn, oLoadKid, oStoreTree, oField, oExtract, oNil, oSliceQ, oLen, nodupB, treeOf, kidAbs, kidRows, TK.isCell, D.toL, oLoad, oStore, oMake, oIndexAddr, ↓reduceIte, reduceCtorEq, Nat.reduceBEq, Nat.reduceAdd, Nat.reduceMul, Nat.reduceLT, Nat.reduceSub, Nat.reduceLeDiff, Nat.reduceEqDiff, Nat.reduceBneDiff, Int.reduceToNat, decide_eq_true_eq, decide_eq_false_iff_not, beq_iff_eq, Int.toNat_natCast, loopK_normal, loopK_exit, loopK_ret, w2]
        have e : l = r := by
          have h1 := hk2
          rwa [List.take_of_length_le (by omega), List.take_of_length_le (by omega)] at h1
        rw [decide_eq_true e]
        exact ⟨_, [], rfl, ⟨⟨⟨rfl, rfl, rfl⟩, trivial⟩, trivial, by simp [rn, hpAt]⟩⟩
    · rw [if_pos (by rw [bne_iff_ne]; omega), no (fun e => hll (by rw [e]))]
      exact ⟨_, [], rfl, ⟨⟨⟨rfl, rfl, rfl⟩, trivial⟩, trivial, by simp [rn, hpAt]⟩⟩
  · cases hg
def g_xnet3 : PC := fun args => match args with
  | [.l _ rows, .v (.int .i64 x), .v (.int .i64 y), .v (.int .i64 z)] => some (∃ l, rows = stRows l ∧ sFin l, .v (.bool true), [])
  | _ => none
def xfindroom : List (FuncId × Abs) := [(52, pureAbs g_szStS), (53, pureAbs g_toStS), (54, pureAbs g_eqStS), (40, pureAbs g_findRoom), (39, pureAbs g_findRoom)]
theorem xfindroom_ok : ∀ p ∈ xfindroom, CallOk Try.prog p.1 p.2 := by
  intro p hp
  simp only [xfindroom, List.mem_cons, List.not_mem_nil, or_false] at hp
  rcases hp with rfl | rfl | rfl | rfl | rfl
  · exact szStationS_ok.call
  · exact toStationS_ok.call
  · exact eqStationS_ok.call
  · exact specFindRoom_ok.call
  · exact implFindRoom_ok.call
set_option maxRecDepth 100000 in
theorem lawExactFindRoom_ok : PureOk Try.prog 14 g_xnet3 := by
  refine PureOk.of_vc (G := xfindroom) xfindroom_ok mixed Try.func14 (by kernel_rfl) rfl ?_
  intro args cnd r bs hg hc
  unfold g_xnet3 at hg
  split at hg
  · rename_i sz rows x y z
    cases hg
    obtain ⟨l, rfl, hf⟩ := hc
    refine ⟨⟨rfl, by simp, by simp [AV.ids, AV.ids.idsL]⟩, [.l 2 (stRows l), .v (.int .i64 x), .v (.int .i64 y), .v (.int .i64 z)], rfl, fun w vs h => CvL.ok (.cons (.l _ _ _ (stRows_w l)) (.cons (.refl _) (.cons (.refl _) (.cons (.refl _) .nil)))) h, ?_⟩
    simp (maxSteps := 3000000) only [Try.f14, xfindroom, g_szStS, g_toStS, g_eqStS, g_findRoom, stsOf_rows, rtsOf_rows, stRows_len, rtRows_len, bne_self_eq_false, and_self, decide_true, tYs, evL, implies_true, oMin, oCopy, oBin, oUn, oLoadKid, oStoreTree, oField, oExtract, oNil, oSliceQ, oLen, nodupB, treeOf, kidAbs, kidRows, TK.isCell, D.toL, oLoad, oStore, oMake, oIndexAddr, ↓reduceIte, reduceCtorEq, Nat.reduceBEq, Nat.reduceAdd, Nat.reduceMul, Nat.reduceLT, Nat.reduceSub, Nat.reduceLeDiff, Nat.reduceEqDiff, Nat.reduceBneDiff, Int.reduceToNat, decide_eq_true_eq, decide_eq_false_iff_not, beq_iff_eq, Int.toNat_natCast]
    have hb := szStS_bd l 1048576 (by omega)
    refine ⟨⟨by omega, _, rfl, hf⟩, ?_⟩
    by_cases hz : szStS l 1048576 < 0
    · rw [if_pos hz]
      exact ⟨_, [], rfl, ⟨⟨⟨rfl, rfl, rfl⟩, trivial⟩, trivial, by simp [rn, hpAt]⟩⟩
    · rw [if_neg hz]
      have hm := hb.2.2 (by omega)
      repeat' first
        | refine And.intro ⟨_, rfl, hm⟩ ?_
        | refine And.intro ⟨⟨_, rfl, hm⟩, ⟨_, rfl, hm⟩⟩ ?_
      exact ⟨_, [], rfl, ⟨⟨⟨rfl, rfl, rfl⟩, trivial⟩, trivial, by simp [rn, hpAt]⟩⟩
  · cases hg
theorem wt_rts {d : D} (h : WT (.sl rtKinds) d) : ∃ l, d = .l 4 (rtRows l) ∧ l.length ≤ 9223372036854775807 := by
  obtain ⟨rows, rfl, hn, hr⟩ := wt_row h
  obtain ⟨l, h1, _⟩ := map_of rtRow (fun _ => True) rows fun r hm => by
    obtain ⟨g1, g2⟩ := hr r hm
    match r, g1 with
    | [x0, x1, x2, x3], _ =>
      obtain ⟨a, rfl, _⟩ := wt_int (g2 0 _ x0 rfl rfl)
      obtain ⟨b, rfl, _⟩ := wt_int (g2 1 _ x1 rfl rfl)
      obtain ⟨v, rfl, _⟩ := wt_int (g2 2 _ x2 rfl rfl)
      obtain ⟨m, rfl, _⟩ := wt_int (g2 3 _ x3 rfl rfl)
      exact ⟨⟨a, b, v, m⟩, rfl, trivial⟩
  refine ⟨l, by rw [h1]; rfl, ?_⟩
  rw [h1, List.length_map] at hn
  exact Nat.le_trans hn (by decide)
def stKinds : List KD := [.int .i64, .sl rtKinds]
def stSKinds : List KD := [.sl stKinds]
theorem wt_st {d : D} (h : WT (.sl stKinds) d) : ∃ l, d = .l 2 (stRows l) ∧ sFin l := by
  obtain ⟨rows, rfl, hn, hr⟩ := wt_row h
  obtain ⟨l, h1, h2⟩ := map_of stRow (fun x => x.rs.length ≤ 9223372036854775807) rows fun r hm => by
    obtain ⟨h1, h2⟩ := hr r hm
    match r, h1 with
    | [x, y], _ =>
      obtain ⟨a, rfl, _⟩ := wt_int (h2 0 _ x rfl rfl)
      obtain ⟨rs, rfl, hp⟩ := wt_rts (h2 1 _ y rfl rfl)
      exact ⟨⟨a, rs⟩, rfl, hp⟩
  refine ⟨l, by rw [h1]; rfl, ?_, h2⟩
  rw [h1, List.length_map] at hn
  exact Nat.le_trans hn (by decide)
theorem stS_in {w : World} {ds : List D} {c : Value} (H : Reads w stSKinds ds [c]) : ∃ l, AVR w (Zold w) (fun _ => .none) (fun _ => nilS) (.l 2 (stRows l)) c ∧ sFin l := by
  obtain ⟨h1, h2, h3, h4⟩ := H
  match ds, h1 with
  | [x], _ =>
    obtain ⟨l, rfl, hp⟩ := wt_st (h3 0 _ x rfl rfl)
    exact ⟨l, .l _ _ _ (h4 0 _ c rfl rfl), hp⟩
theorem walk_ExactFindRoom (c : Value) (ds : List D) (x y z : Int) (w : World) (H : Reads w stSKinds ds [c]) (_ : (Lit.int .i64 x).wf = true) (_ : (Lit.int .i64 y).wf = true) (_ : (Lit.int .i64 z).wf = true) :
    Calls Try.prog 14 #[c, .int .i64 x, .int .i64 y, .int .i64 z] w fun e w' => e = .returned (.bool true) ∧ Below w.heap.size w w' := by
  obtain ⟨l, hr, hf⟩ := stS_in H
  exact lawExactFindRoom_ok.walk (vs := [_, _, _, _]) (arel_cons hr (arel_cons (.v _) (arel_cons (.v _) (arel_cons (.v _) arel_nil)))) rfl ⟨_, rfl, hf⟩
end Go.Proofs.Ythbcoakimbpkgaa
