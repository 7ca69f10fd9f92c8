import Derived.Test.YtnlhfjdkhkmaeaaJg
import Derived.Test.YtnlhfjdkhkmaeaaJo
set_option linter.unusedVariables false
set_option linter.unusedSimpArgs false
namespace Go.Proofs.Ytnlhfjdkhkmaeaa
open Go.RowKit
set_option linter.unusedSimpArgs false
theorem sg_bare {f t sq ak rm : Int} {fi he la re : Bool} {l : List Rg} {n : Nat} (h : sgK f t sq ak rm fi he la re l n = true) : sgK f t sq ak rm fi he la re l 0 = true := by
  simp only [sgK, Bool.and_eq_true, decide_eq_true_eq] at h ⊢
  obtain ⟨⟨⟨⟨h1, h2⟩, h3⟩, h4⟩, h5⟩ := h
  refine ⟨⟨⟨⟨h1, Nat.zero_le _⟩, h3⟩, h4⟩, ?_⟩
  cases re <;> simp_all
theorem sg_deaf (f t sq ak : Int) (fi la re : Bool) (l : List Rg) (n : Nat) : sgK f t sq ak 1 fi false la re l n = false := by
  simp [sgK]
theorem long_zero (s : Sg) : (longV s == 0) = (decide ((s.d.length : Int) = 0) && (!s.fi && !s.la)) := by
  rw [Bool.eq_iff_iff]
  unfold longV bI
  cases s.fi <;> cases s.la <;> simp <;> omega
def lsga : List (FuncId × Abs) := [(14, pureAbs g_alive), (12, pureAbs g_segOk), (13, pureAbs g_segOk), (11, ownAbs (ocOf (g_drawSg 2)))]
theorem lsga_ok : ∀ p ∈ lsga, CallOk Try.prog p.1 p.2 := by
  intro p hp
  simp only [lsga, List.mem_cons, List.not_mem_nil, or_false] at hp
  rcases hp with rfl | rfl | rfl | rfl
  · exact alive_ok.call
  · exact implSegmentOk_ok.call
  · exact specSegmentOk_ok.call
  · exact drawSegmentOk_ok.call
set_option maxHeartbeats 8000000 in
set_option maxRecDepth 100000 in
theorem lawSegmentOk_ok : PureOk Try.prog 3 g_true := by
  refine PureOk.of_vc (G := lsga) lsga_ok mixed Try.func3 (by kernel_rfl) rfl ?_
  intro args cnd r bs hg hc
  unfold g_true at hg
  split at hg
  · rename_i sz rows
    cases hg
    obtain ⟨xs, rfl⟩ := hc
    refine ⟨⟨rfl, by simp, by simp [AV.ids, AV.ids.idsL]⟩, [.l 1 (rowsOfBytes xs)], rfl, fun w vs h => CvL.ok (.cons (.l _ _ _ (rowsOf_w xs)) .nil) h, ?_⟩
    obtain ⟨ys, hys⟩ : ∃ ys, ys = List.take 2000 xs := ⟨_, rfl⟩
    by_cases h20 : (xs.length : Int) > 1048576
    · have e20 : ((xs.length : Int) > 1048576) = True := eq_true h20
      simp (maxSteps := 3000000) only [Try.f3, lsga, e20, g_alive, g_segOk, ocOf, g_drawSg, bytesOf_rows, rowsOf_len, rgsOf_rows, rgRows_len, ↓reduceIte, Bool.false_eq_true, Bool.not_true, Bool.not_false, tYs, evL, implies_true, oMin, x_max, oMax, oCopy, oBin, oUn, oLoadKid, oStoreTree, oField, oExtract, oNil, oSliceQ, oSliceE, x_appendZ, oAppendZ, oSliceEnd, endMode, oLoadRow, takeCells, TS.atRow, TS.ex, treeMode, AV.isOwn, TK.isSl, nilTk, nilsB, oLenQ, oLen, nodupB, treeOf, kidAbs, kidRows, TK.isCell, D.toL, oLoad, oStore, oMake, oIndexAddr, ↓reduceIte, reduceCtorEq, Nat.reduceBEq, Nat.reduceAdd, Nat.reduceMul, Nat.reduceLT, Nat.reduceSub, Nat.reduceLeDiff, Nat.reduceEqDiff, Nat.reduceBneDiff, Int.reduceToNat, decide_eq_true_eq, decide_eq_false_iff_not, beq_iff_eq, Int.toNat_natCast, loopK_normal, loopK_exit, loopK_ret, bne_self_eq_false]
      exact ⟨_, [], rfl, ⟨⟨⟨rfl, rfl, rfl⟩, trivial⟩, trivial, by simp [rn, hpAt]⟩⟩
    have e20 : ((xs.length : Int) > 1048576) = False := eq_false h20
    have hmid := swV_mid ys 0 2 (by omega)
    obtain ⟨V, hV⟩ : ∃ V, V = (swV ys 0 2).s := ⟨_, rfl⟩
    have hV' := hV.symm
    rw [hV'] at hmid
    clear hV
    obtain ⟨n1, n2, n3, n4, n5, n6, n7⟩ := hmid
    have hdf := sg_deaf V.f V.t V.sq V.ak V.fi V.la V.re V.rs V.d.length
    rcases hok : sgK V.f V.t V.sq V.ak V.rm V.fi V.he V.la V.re V.rs V.d.length with _ | _
    · simp (maxSteps := 3000000) only [Try.f3, lsga, e20, ← hys, hV', hok, hdf, g_alive, g_segOk, ocOf, g_drawSg, bytesOf_rows, rowsOf_len, rgsOf_rows, rgRows_len, ↓reduceIte, Bool.false_eq_true, Bool.not_true, Bool.not_false, tYs, evL, implies_true, oMin, x_max, oMax, oCopy, oBin, oUn, oLoadKid, oStoreTree, oField, oExtract, oNil, oSliceQ, oSliceE, x_appendZ, oAppendZ, oSliceEnd, endMode, oLoadRow, takeCells, TS.atRow, TS.ex, treeMode, AV.isOwn, TK.isSl, nilTk, nilsB, oLenQ, oLen, nodupB, treeOf, kidAbs, kidRows, TK.isCell, D.toL, oLoad, oStore, oMake, oIndexAddr, ↓reduceIte, reduceCtorEq, Nat.reduceBEq, Nat.reduceAdd, Nat.reduceMul, Nat.reduceLT, Nat.reduceSub, Nat.reduceLeDiff, Nat.reduceEqDiff, Nat.reduceBneDiff, Int.reduceToNat, decide_eq_true_eq, decide_eq_false_iff_not, beq_iff_eq, Int.toNat_natCast, loopK_normal, loopK_exit, loopK_ret, bne_self_eq_false]
      repeat' first
        | (refine And.intro ?_ ?_; focus (omega; done))
        | (refine And.intro ?_ ?_; focus (exact ⟨xs, rfl⟩))
        | (refine And.intro ?_ ?_; focus (exact ⟨_, rfl, by omega⟩))
        | (refine And.intro ?_ ?_; focus (exact ⟨⟨_, rfl, by omega⟩, _, rfl, by omega⟩))
        | (refine And.intro ?_ ?_; focus (exact ⟨⟨_, rfl, by omega⟩, [], rfl, by simp⟩))
        | (refine And.intro ?_ ?_; focus (exact ⟨⟨_, rfl⟩, _, rfl⟩))
        | (refine And.intro ?_ ?_; focus (exact ⟨by omega, by omega, rowsOf_w _⟩))
        | (refine And.intro ?_ ?_; focus (exact ⟨by omega, by omega, fun r hr => by simp only [List.mem_cons, List.not_mem_nil, or_false] at hr; subst hr; rfl⟩))
        | (refine And.intro ?_ ?_; focus (exact ⟨⟨_, rfl, by omega⟩, _, rfl, by simp only [List.length_append, List.length_cons, List.length_nil]; omega⟩))
        | (refine And.intro ?_ ?_; focus (exact ⟨_, rfl, by simp only [List.length_append, List.length_cons, List.length_nil]; omega⟩))
        | (refine And.intro ?_ ?_; focus (exact ⟨_, rfl⟩))
        | (refine And.intro ?_ ?_; focus (exact ⟨⟨_, rfl, rfl, by omega⟩, _, rfl⟩))
        | (refine And.intro ?_ ?_; focus (exact ⟨⟨_, rfl, rfl, by omega⟩, _, rfl, rfl⟩))
        | (refine And.intro ?_ ?_; focus (kernel_rfl))
      exact ⟨_, [], rfl, ⟨⟨⟨rfl, rfl, rfl⟩, trivial⟩, trivial, by simp [rn, hpAt]⟩⟩
    · have hbr := sg_bare hok
      have hnil : (bytesOfRows []).length = 0 := rfl
      simp (maxSteps := 3000000) only [Try.f3, lsga, e20, ← hys, hV', hok, hdf, hbr, hnil, g_alive, g_segOk, ocOf, g_drawSg, bytesOf_rows, rowsOf_len, rgsOf_rows, rgRows_len, ↓reduceIte, Bool.false_eq_true, Bool.not_true, Bool.not_false, tYs, evL, implies_true, oMin, x_max, oMax, oCopy, oBin, oUn, oLoadKid, oStoreTree, oField, oExtract, oNil, oSliceQ, oSliceE, x_appendZ, oAppendZ, oSliceEnd, endMode, oLoadRow, takeCells, TS.atRow, TS.ex, treeMode, AV.isOwn, TK.isSl, nilTk, nilsB, oLenQ, oLen, nodupB, treeOf, kidAbs, kidRows, TK.isCell, D.toL, oLoad, oStore, oMake, oIndexAddr, ↓reduceIte, reduceCtorEq, Nat.reduceBEq, Nat.reduceAdd, Nat.reduceMul, Nat.reduceLT, Nat.reduceSub, Nat.reduceLeDiff, Nat.reduceEqDiff, Nat.reduceBneDiff, Int.reduceToNat, decide_eq_true_eq, decide_eq_false_iff_not, beq_iff_eq, Int.toNat_natCast, loopK_normal, loopK_exit, loopK_ret, bne_self_eq_false]
      repeat' first
        | (refine And.intro ?_ ?_; focus (omega; done))
        | (refine And.intro ?_ ?_; focus (exact ⟨xs, rfl⟩))
        | (refine And.intro ?_ ?_; focus (exact ⟨_, rfl, by omega⟩))
        | (refine And.intro ?_ ?_; focus (exact ⟨⟨_, rfl, by omega⟩, _, rfl, by omega⟩))
        | (refine And.intro ?_ ?_; focus (exact ⟨⟨_, rfl, by omega⟩, [], rfl, by simp⟩))
        | (refine And.intro ?_ ?_; focus (exact ⟨⟨_, rfl⟩, _, rfl⟩))
        | (refine And.intro ?_ ?_; focus (exact ⟨by omega, by omega, rowsOf_w _⟩))
        | (refine And.intro ?_ ?_; focus (exact ⟨by omega, by omega, fun r hr => by simp only [List.mem_cons, List.not_mem_nil, or_false] at hr; subst hr; rfl⟩))
        | (refine And.intro ?_ ?_; focus (exact ⟨⟨_, rfl, by omega⟩, _, rfl, by simp only [List.length_append, List.length_cons, List.length_nil]; omega⟩))
        | (refine And.intro ?_ ?_; focus (exact ⟨_, rfl, by simp only [List.length_append, List.length_cons, List.length_nil]; omega⟩))
        | (refine And.intro ?_ ?_; focus (exact ⟨_, rfl⟩))
        | (refine And.intro ?_ ?_; focus (exact ⟨⟨_, rfl, rfl, by omega⟩, _, rfl⟩))
        | (refine And.intro ?_ ?_; focus (exact ⟨⟨_, rfl, rfl, by omega⟩, _, rfl, rfl⟩))
        | (refine And.intro ?_ ?_; focus (kernel_rfl))
      exact ⟨_, [], rfl, ⟨⟨⟨rfl, rfl, rfl⟩, trivial⟩, trivial, by simp [rn, hpAt]⟩⟩
  · cases hg
theorem walk_SegmentOk (A : Option Addr) (n c : Nat) (xs : List UInt8) (w : World) (h : Rd w w.heap.size A n (bv xs)) (hc : n ≤ c) :
    Calls Try.prog 3 #[.slice A n c] w fun e w' => e = .returned (.bool true) ∧ Below w.heap.size w w' :=
  lawSegmentOk_ok.walk (vs := [_]) (arel_cons (.l _ _ _ (rep_of_rd h hc)) arel_nil) rfl ⟨xs, rfl⟩
def lsgb : List (FuncId × Abs) := [(24, pureAbs g_segLong), (25, pureAbs g_segLong), (23, ownAbs (ocOf (g_drawSg 9)))]
theorem lsgb_ok : ∀ p ∈ lsgb, CallOk Try.prog p.1 p.2 := by
  intro p hp
  simp only [lsgb, List.mem_cons, List.not_mem_nil, or_false] at hp
  rcases hp with rfl | rfl | rfl
  · exact implSegmentLong_ok.call
  · exact specSegmentLong_ok.call
  · exact drawSegmentLong_ok.call
set_option maxHeartbeats 8000000 in
set_option maxRecDepth 100000 in
theorem lawSegmentLong_ok : PureOk Try.prog 6 g_true := by
  refine PureOk.of_vc (G := lsgb) lsgb_ok mixed Try.func6 (by kernel_rfl) rfl ?_
  intro args cnd r bs hg hc
  unfold g_true at hg
  split at hg
  · rename_i sz rows
    cases hg
    obtain ⟨xs, rfl⟩ := hc
    refine ⟨⟨rfl, by simp, by simp [AV.ids, AV.ids.idsL]⟩, [.l 1 (rowsOfBytes xs)], rfl, fun w vs h => CvL.ok (.cons (.l _ _ _ (rowsOf_w xs)) .nil) h, ?_⟩
    obtain ⟨ys, hys⟩ : ∃ ys, ys = List.take 2000 xs := ⟨_, rfl⟩
    by_cases h20 : (xs.length : Int) > 1048576
    · have e20 : ((xs.length : Int) > 1048576) = True := eq_true h20
      simp (maxSteps := 3000000) only [Try.f6, lsgb, e20, g_segLong, ocOf, g_drawSg, bytesOf_rows, rowsOf_len, rgsOf_rows, rgRows_len, ↓reduceIte, Bool.false_eq_true, Bool.not_true, Bool.not_false, tYs, evL, implies_true, oMin, x_max, oMax, oCopy, oBin, oUn, oLoadKid, oStoreTree, oField, oExtract, oNil, oSliceQ, oSliceE, x_appendZ, oAppendZ, oSliceEnd, endMode, oLoadRow, takeCells, TS.atRow, TS.ex, treeMode, AV.isOwn, TK.isSl, nilTk, nilsB, oLenQ, oLen, nodupB, treeOf, kidAbs, kidRows, TK.isCell, D.toL, oLoad, oStore, oMake, oIndexAddr, ↓reduceIte, reduceCtorEq, Nat.reduceBEq, Nat.reduceAdd, Nat.reduceMul, Nat.reduceLT, Nat.reduceSub, Nat.reduceLeDiff, Nat.reduceEqDiff, Nat.reduceBneDiff, Int.reduceToNat, decide_eq_true_eq, decide_eq_false_iff_not, beq_iff_eq, Int.toNat_natCast, loopK_normal, loopK_exit, loopK_ret, bne_self_eq_false]
      exact ⟨_, [], rfl, ⟨⟨⟨rfl, rfl, rfl⟩, trivial⟩, trivial, by simp [rn, hpAt]⟩⟩
    have e20 : ((xs.length : Int) > 1048576) = False := eq_false h20
    have hmid := swV_mid ys 0 9 (by omega)
    obtain ⟨V, hV⟩ : ∃ V, V = (swV ys 0 9).s := ⟨_, rfl⟩
    have hV' := hV.symm
    rw [hV'] at hmid
    clear hV
    obtain ⟨n1, n2, n3, n4, n5, n6, n7⟩ := hmid
    obtain ⟨f, t, sq, ak, rm, fi, he, la, re, rs, d⟩ := V
    dsimp only at n1 n2 n3 n4 n5 n6 n7
    have hz := long_zero ⟨f, t, sq, ak, rm, fi, he, la, re, rs, d⟩
    have hm : longV ⟨f, t, sq, ak, rm, fi, he, la, re, rs, d ++ [1]⟩ = longV ⟨f, t, sq, ak, rm, fi, he, la, re, rs, d⟩ + 1 := by simp only [longV, List.length_append, List.length_cons, List.length_nil]; omega
    have hq : longV ⟨f, t, sq, 7, rm, fi, !he, la, re, rs, d⟩ = longV ⟨f, t, sq, ak, rm, fi, he, la, re, rs, d⟩ := rfl
    have hs : longV ⟨f, t, sq, ak, rm, fi, he, la, re, rs, d⟩ = longV ⟨f, t, sq, ak, rm, fi, he, la, re, rs, d⟩ := rfl
    have hb : 0 ≤ longV ⟨f, t, sq, ak, rm, fi, he, la, re, rs, d⟩ ∧ longV ⟨f, t, sq, ak, rm, fi, he, la, re, rs, d⟩ ≤ 100 := by unfold longV bI; dsimp only; split <;> split <;> omega
    generalize hn : longV ⟨f, t, sq, ak, rm, fi, he, la, re, rs, d⟩ = n at hz hm hq hs hb
    clear hs
    have hs := hn
    have w1 : IntKind.i64.wrap (n + 1) = n + 1 := wrap_id (by omega) (by omega)
    have ha : rowsOfBytes d ++ [[D.v (.int .u8 1)]] = rowsOfBytes (d ++ [1]) := by rw [← rowsOf_app]; rfl
    dsimp only at hz
    cases fi <;> cases la <;> by_cases hd : (d.length : Int) = 0
    · have hd' : ((d.length : Int) = 0) = True := eq_true hd
      have hdb : ((d.length : Int) == 0) = true := beq_iff_eq.2 hd
      have hz' : (n == 0) = true := by rw [hz]; simp only [hd', decide_true, decide_false]; rfl
      simp (maxSteps := 3000000) only [Try.f6, lsgb, e20, ← hys, hV', hs, hq, hm, hz', hd', hdb, w1, ha, beq_self_eq_true, decide_true, decide_false, g_segLong, ocOf, g_drawSg, bytesOf_rows, rowsOf_len, rgsOf_rows, rgRows_len, ↓reduceIte, Bool.false_eq_true, Bool.not_true, Bool.not_false, tYs, evL, implies_true, oMin, x_max, oMax, oCopy, oBin, oUn, oLoadKid, oStoreTree, oField, oExtract, oNil, oSliceQ, oSliceE, x_appendZ, oAppendZ, oSliceEnd, endMode, oLoadRow, takeCells, TS.atRow, TS.ex, treeMode, AV.isOwn, TK.isSl, nilTk, nilsB, oLenQ, oLen, nodupB, treeOf, kidAbs, kidRows, TK.isCell, D.toL, oLoad, oStore, oMake, oIndexAddr, ↓reduceIte, reduceCtorEq, Nat.reduceBEq, Nat.reduceAdd, Nat.reduceMul, Nat.reduceLT, Nat.reduceSub, Nat.reduceLeDiff, Nat.reduceEqDiff, Nat.reduceBneDiff, Int.reduceToNat, decide_eq_true_eq, decide_eq_false_iff_not, beq_iff_eq, Int.toNat_natCast, loopK_normal, loopK_exit, loopK_ret, bne_self_eq_false]
      repeat' first
        | (refine And.intro ?_ ?_; focus (omega; done))
        | (refine And.intro ?_ ?_; focus (exact ⟨xs, rfl⟩))
        | (refine And.intro ?_ ?_; focus (exact ⟨_, rfl, by omega⟩))
        | (refine And.intro ?_ ?_; focus (exact ⟨⟨_, rfl, by omega⟩, _, rfl, by omega⟩))
        | (refine And.intro ?_ ?_; focus (exact ⟨⟨_, rfl, by omega⟩, [], rfl, by simp⟩))
        | (refine And.intro ?_ ?_; focus (exact ⟨⟨_, rfl⟩, _, rfl⟩))
        | (refine And.intro ?_ ?_; focus (exact ⟨by omega, by omega, rowsOf_w _⟩))
        | (refine And.intro ?_ ?_; focus (exact ⟨by omega, by omega, fun r hr => by simp only [List.mem_cons, List.not_mem_nil, or_false] at hr; subst hr; rfl⟩))
        | (refine And.intro ?_ ?_; focus (exact ⟨⟨_, rfl, by omega⟩, _, rfl, by simp only [List.length_append, List.length_cons, List.length_nil]; omega⟩))
        | (refine And.intro ?_ ?_; focus (exact ⟨_, rfl, by simp only [List.length_append, List.length_cons, List.length_nil]; omega⟩))
        | (refine And.intro ?_ ?_; focus (exact ⟨_, rfl⟩))
        | (refine And.intro ?_ ?_; focus (exact ⟨⟨_, rfl, rfl, by omega⟩, _, rfl⟩))
        | (refine And.intro ?_ ?_; focus (exact ⟨⟨_, rfl, rfl, by omega⟩, _, rfl, rfl⟩))
        | (refine And.intro ?_ ?_; focus (kernel_rfl))
      exact ⟨_, [], rfl, ⟨⟨⟨rfl, rfl, rfl⟩, trivial⟩, trivial, by simp [rn, hpAt]⟩⟩
    · have hd' : ((d.length : Int) = 0) = False := eq_false hd
      have hdb : ((d.length : Int) == 0) = false := beq_eq_false_iff_ne.2 hd
      have hz' : (n == 0) = false := by rw [hz]; simp only [hd', decide_true, decide_false]; rfl
      simp (maxSteps := 3000000) only [Try.f6, lsgb, e20, ← hys, hV', hs, hq, hm, hz', hd', hdb, w1, ha, beq_self_eq_true, decide_true, decide_false, g_segLong, ocOf, g_drawSg, bytesOf_rows, rowsOf_len, rgsOf_rows, rgRows_len, ↓reduceIte, Bool.false_eq_true, Bool.not_true, Bool.not_false, tYs, evL, implies_true, oMin, x_max, oMax, oCopy, oBin, oUn, oLoadKid, oStoreTree, oField, oExtract, oNil, oSliceQ, oSliceE, x_appendZ, oAppendZ, oSliceEnd, endMode, oLoadRow, takeCells, TS.atRow, TS.ex, treeMode, AV.isOwn, TK.isSl, nilTk, nilsB, oLenQ, oLen, nodupB, treeOf, kidAbs, kidRows, TK.isCell, D.toL, oLoad, oStore, oMake, oIndexAddr, ↓reduceIte, reduceCtorEq, Nat.reduceBEq, Nat.reduceAdd, Nat.reduceMul, Nat.reduceLT, Nat.reduceSub, Nat.reduceLeDiff, Nat.reduceEqDiff, Nat.reduceBneDiff, Int.reduceToNat, decide_eq_true_eq, decide_eq_false_iff_not, beq_iff_eq, Int.toNat_natCast, loopK_normal, loopK_exit, loopK_ret, bne_self_eq_false]
      repeat' first
        | (refine And.intro ?_ ?_; focus (omega; done))
        | (refine And.intro ?_ ?_; focus (exact ⟨xs, rfl⟩))
        | (refine And.intro ?_ ?_; focus (exact ⟨_, rfl, by omega⟩))
        | (refine And.intro ?_ ?_; focus (exact ⟨⟨_, rfl, by omega⟩, _, rfl, by omega⟩))
        | (refine And.intro ?_ ?_; focus (exact ⟨⟨_, rfl, by omega⟩, [], rfl, by simp⟩))
        | (refine And.intro ?_ ?_; focus (exact ⟨⟨_, rfl⟩, _, rfl⟩))
        | (refine And.intro ?_ ?_; focus (exact ⟨by omega, by omega, rowsOf_w _⟩))
        | (refine And.intro ?_ ?_; focus (exact ⟨by omega, by omega, fun r hr => by simp only [List.mem_cons, List.not_mem_nil, or_false] at hr; subst hr; rfl⟩))
        | (refine And.intro ?_ ?_; focus (exact ⟨⟨_, rfl, by omega⟩, _, rfl, by simp only [List.length_append, List.length_cons, List.length_nil]; omega⟩))
        | (refine And.intro ?_ ?_; focus (exact ⟨_, rfl, by simp only [List.length_append, List.length_cons, List.length_nil]; omega⟩))
        | (refine And.intro ?_ ?_; focus (exact ⟨_, rfl⟩))
        | (refine And.intro ?_ ?_; focus (exact ⟨⟨_, rfl, rfl, by omega⟩, _, rfl⟩))
        | (refine And.intro ?_ ?_; focus (exact ⟨⟨_, rfl, rfl, by omega⟩, _, rfl, rfl⟩))
        | (refine And.intro ?_ ?_; focus (kernel_rfl))
      exact ⟨_, [], rfl, ⟨⟨⟨rfl, rfl, rfl⟩, trivial⟩, trivial, by simp [rn, hpAt]⟩⟩
    · have hd' : ((d.length : Int) = 0) = True := eq_true hd
      have hdb : ((d.length : Int) == 0) = true := beq_iff_eq.2 hd
      have hz' : (n == 0) = false := by rw [hz]; simp only [hd', decide_true, decide_false]; rfl
      simp (maxSteps := 3000000) only [Try.f6, lsgb, e20, ← hys, hV', hs, hq, hm, hz', hd', hdb, w1, ha, beq_self_eq_true, decide_true, decide_false, g_segLong, ocOf, g_drawSg, bytesOf_rows, rowsOf_len, rgsOf_rows, rgRows_len, ↓reduceIte, Bool.false_eq_true, Bool.not_true, Bool.not_false, tYs, evL, implies_true, oMin, x_max, oMax, oCopy, oBin, oUn, oLoadKid, oStoreTree, oField, oExtract, oNil, oSliceQ, oSliceE, x_appendZ, oAppendZ, oSliceEnd, endMode, oLoadRow, takeCells, TS.atRow, TS.ex, treeMode, AV.isOwn, TK.isSl, nilTk, nilsB, oLenQ, oLen, nodupB, treeOf, kidAbs, kidRows, TK.isCell, D.toL, oLoad, oStore, oMake, oIndexAddr, ↓reduceIte, reduceCtorEq, Nat.reduceBEq, Nat.reduceAdd, Nat.reduceMul, Nat.reduceLT, Nat.reduceSub, Nat.reduceLeDiff, Nat.reduceEqDiff, Nat.reduceBneDiff, Int.reduceToNat, decide_eq_true_eq, decide_eq_false_iff_not, beq_iff_eq, Int.toNat_natCast, loopK_normal, loopK_exit, loopK_ret, bne_self_eq_false]
      repeat' first
        | (refine And.intro ?_ ?_; focus (omega; done))
        | (refine And.intro ?_ ?_; focus (exact ⟨xs, rfl⟩))
        | (refine And.intro ?_ ?_; focus (exact ⟨_, rfl, by omega⟩))
        | (refine And.intro ?_ ?_; focus (exact ⟨⟨_, rfl, by omega⟩, _, rfl, by omega⟩))
        | (refine And.intro ?_ ?_; focus (exact ⟨⟨_, rfl, by omega⟩, [], rfl, by simp⟩))
        | (refine And.intro ?_ ?_; focus (exact ⟨⟨_, rfl⟩, _, rfl⟩))
        | (refine And.intro ?_ ?_; focus (exact ⟨by omega, by omega, rowsOf_w _⟩))
        | (refine And.intro ?_ ?_; focus (exact ⟨by omega, by omega, fun r hr => by simp only [List.mem_cons, List.not_mem_nil, or_false] at hr; subst hr; rfl⟩))
        | (refine And.intro ?_ ?_; focus (exact ⟨⟨_, rfl, by omega⟩, _, rfl, by simp only [List.length_append, List.length_cons, List.length_nil]; omega⟩))
        | (refine And.intro ?_ ?_; focus (exact ⟨_, rfl, by simp only [List.length_append, List.length_cons, List.length_nil]; omega⟩))
        | (refine And.intro ?_ ?_; focus (exact ⟨_, rfl⟩))
        | (refine And.intro ?_ ?_; focus (exact ⟨⟨_, rfl, rfl, by omega⟩, _, rfl⟩))
        | (refine And.intro ?_ ?_; focus (exact ⟨⟨_, rfl, rfl, by omega⟩, _, rfl, rfl⟩))
        | (refine And.intro ?_ ?_; focus (kernel_rfl))
      exact ⟨_, [], rfl, ⟨⟨⟨rfl, rfl, rfl⟩, trivial⟩, trivial, by simp [rn, hpAt]⟩⟩
    · have hd' : ((d.length : Int) = 0) = False := eq_false hd
      have hdb : ((d.length : Int) == 0) = false := beq_eq_false_iff_ne.2 hd
      have hz' : (n == 0) = false := by rw [hz]; simp only [hd', decide_true, decide_false]; rfl
      simp (maxSteps := 3000000) only [Try.f6, lsgb, e20, ← hys, hV', hs, hq, hm, hz', hd', hdb, w1, ha, beq_self_eq_true, decide_true, decide_false, g_segLong, ocOf, g_drawSg, bytesOf_rows, rowsOf_len, rgsOf_rows, rgRows_len, ↓reduceIte, Bool.false_eq_true, Bool.not_true, Bool.not_false, tYs, evL, implies_true, oMin, x_max, oMax, oCopy, oBin, oUn, oLoadKid, oStoreTree, oField, oExtract, oNil, oSliceQ, oSliceE, x_appendZ, oAppendZ, oSliceEnd, endMode, oLoadRow, takeCells, TS.atRow, TS.ex, treeMode, AV.isOwn, TK.isSl, nilTk, nilsB, oLenQ, oLen, nodupB, treeOf, kidAbs, kidRows, TK.isCell, D.toL, oLoad, oStore, oMake, oIndexAddr, ↓reduceIte, reduceCtorEq, Nat.reduceBEq, Nat.reduceAdd, Nat.reduceMul, Nat.reduceLT, Nat.reduceSub, Nat.reduceLeDiff, Nat.reduceEqDiff, Nat.reduceBneDiff, Int.reduceToNat, decide_eq_true_eq, decide_eq_false_iff_not, beq_iff_eq, Int.toNat_natCast, loopK_normal, loopK_exit, loopK_ret, bne_self_eq_false]
      repeat' first
        | (refine And.intro ?_ ?_; focus (omega; done))
        | (refine And.intro ?_ ?_; focus (exact ⟨xs, rfl⟩))
        | (refine And.intro ?_ ?_; focus (exact ⟨_, rfl, by omega⟩))
        | (refine And.intro ?_ ?_; focus (exact ⟨⟨_, rfl, by omega⟩, _, rfl, by omega⟩))
        | (refine And.intro ?_ ?_; focus (exact ⟨⟨_, rfl, by omega⟩, [], rfl, by simp⟩))
        | (refine And.intro ?_ ?_; focus (exact ⟨⟨_, rfl⟩, _, rfl⟩))
        | (refine And.intro ?_ ?_; focus (exact ⟨by omega, by omega, rowsOf_w _⟩))
        | (refine And.intro ?_ ?_; focus (exact ⟨by omega, by omega, fun r hr => by simp only [List.mem_cons, List.not_mem_nil, or_false] at hr; subst hr; rfl⟩))
        | (refine And.intro ?_ ?_; focus (exact ⟨⟨_, rfl, by omega⟩, _, rfl, by simp only [List.length_append, List.length_cons, List.length_nil]; omega⟩))
        | (refine And.intro ?_ ?_; focus (exact ⟨_, rfl, by simp only [List.length_append, List.length_cons, List.length_nil]; omega⟩))
        | (refine And.intro ?_ ?_; focus (exact ⟨_, rfl⟩))
        | (refine And.intro ?_ ?_; focus (exact ⟨⟨_, rfl, rfl, by omega⟩, _, rfl⟩))
        | (refine And.intro ?_ ?_; focus (exact ⟨⟨_, rfl, rfl, by omega⟩, _, rfl, rfl⟩))
        | (refine And.intro ?_ ?_; focus (kernel_rfl))
      exact ⟨_, [], rfl, ⟨⟨⟨rfl, rfl, rfl⟩, trivial⟩, trivial, by simp [rn, hpAt]⟩⟩
    · have hd' : ((d.length : Int) = 0) = True := eq_true hd
      have hdb : ((d.length : Int) == 0) = true := beq_iff_eq.2 hd
      have hz' : (n == 0) = false := by rw [hz]; simp only [hd', decide_true, decide_false]; rfl
      simp (maxSteps := 3000000) only [Try.f6, lsgb, e20, ← hys, hV', hs, hq, hm, hz', hd', hdb, w1, ha, beq_self_eq_true, decide_true, decide_false, g_segLong, ocOf, g_drawSg, bytesOf_rows, rowsOf_len, rgsOf_rows, rgRows_len, ↓reduceIte, Bool.false_eq_true, Bool.not_true, Bool.not_false, tYs, evL, implies_true, oMin, x_max, oMax, oCopy, oBin, oUn, oLoadKid, oStoreTree, oField, oExtract, oNil, oSliceQ, oSliceE, x_appendZ, oAppendZ, oSliceEnd, endMode, oLoadRow, takeCells, TS.atRow, TS.ex, treeMode, AV.isOwn, TK.isSl, nilTk, nilsB, oLenQ, oLen, nodupB, treeOf, kidAbs, kidRows, TK.isCell, D.toL, oLoad, oStore, oMake, oIndexAddr, ↓reduceIte, reduceCtorEq, Nat.reduceBEq, Nat.reduceAdd, Nat.reduceMul, Nat.reduceLT, Nat.reduceSub, Nat.reduceLeDiff, Nat.reduceEqDiff, Nat.reduceBneDiff, Int.reduceToNat, decide_eq_true_eq, decide_eq_false_iff_not, beq_iff_eq, Int.toNat_natCast, loopK_normal, loopK_exit, loopK_ret, bne_self_eq_false]
      repeat' first
        | (refine And.intro ?_ ?_; focus (omega; done))
        | (refine And.intro ?_ ?_; focus (exact ⟨xs, rfl⟩))
        | (refine And.intro ?_ ?_; focus (exact ⟨_, rfl, by omega⟩))
        | (refine And.intro ?_ ?_; focus (exact ⟨⟨_, rfl, by omega⟩, _, rfl, by omega⟩))
        | (refine And.intro ?_ ?_; focus (exact ⟨⟨_, rfl, by omega⟩, [], rfl, by simp⟩))
        | (refine And.intro ?_ ?_; focus (exact ⟨⟨_, rfl⟩, _, rfl⟩))
        | (refine And.intro ?_ ?_; focus (exact ⟨by omega, by omega, rowsOf_w _⟩))
        | (refine And.intro ?_ ?_; focus (exact ⟨by omega, by omega, fun r hr => by simp only [List.mem_cons, List.not_mem_nil, or_false] at hr; subst hr; rfl⟩))
        | (refine And.intro ?_ ?_; focus (exact ⟨⟨_, rfl, by omega⟩, _, rfl, by simp only [List.length_append, List.length_cons, List.length_nil]; omega⟩))
        | (refine And.intro ?_ ?_; focus (exact ⟨_, rfl, by simp only [List.length_append, List.length_cons, List.length_nil]; omega⟩))
        | (refine And.intro ?_ ?_; focus (exact ⟨_, rfl⟩))
        | (refine And.intro ?_ ?_; focus (exact ⟨⟨_, rfl, rfl, by omega⟩, _, rfl⟩))
        | (refine And.intro ?_ ?_; focus (exact ⟨⟨_, rfl, rfl, by omega⟩, _, rfl, rfl⟩))
        | (refine And.intro ?_ ?_; focus (kernel_rfl))
      exact ⟨_, [], rfl, ⟨⟨⟨rfl, rfl, rfl⟩, trivial⟩, trivial, by simp [rn, hpAt]⟩⟩
    · have hd' : ((d.length : Int) = 0) = False := eq_false hd
      have hdb : ((d.length : Int) == 0) = false := beq_eq_false_iff_ne.2 hd
      have hz' : (n == 0) = false := by rw [hz]; simp only [hd', decide_true, decide_false]; rfl
      simp (maxSteps := 3000000) only [Try.f6, lsgb, e20, ← hys, hV', hs, hq, hm, hz', hd', hdb, w1, ha, beq_self_eq_true, decide_true, decide_false, g_segLong, ocOf, g_drawSg, bytesOf_rows, rowsOf_len, rgsOf_rows, rgRows_len, ↓reduceIte, Bool.false_eq_true, Bool.not_true, Bool.not_false, tYs, evL, implies_true, oMin, x_max, oMax, oCopy, oBin, oUn, oLoadKid, oStoreTree, oField, oExtract, oNil, oSliceQ, oSliceE, x_appendZ, oAppendZ, oSliceEnd, endMode, oLoadRow, takeCells, TS.atRow, TS.ex, treeMode, AV.isOwn, TK.isSl, nilTk, nilsB, oLenQ, oLen, nodupB, treeOf, kidAbs, kidRows, TK.isCell, D.toL, oLoad, oStore, oMake, oIndexAddr, ↓reduceIte, reduceCtorEq, Nat.reduceBEq, Nat.reduceAdd, Nat.reduceMul, Nat.reduceLT, Nat.reduceSub, Nat.reduceLeDiff, Nat.reduceEqDiff, Nat.reduceBneDiff, Int.reduceToNat, decide_eq_true_eq, decide_eq_false_iff_not, beq_iff_eq, Int.toNat_natCast, loopK_normal, loopK_exit, loopK_ret, bne_self_eq_false]
      repeat' first
        | (refine And.intro ?_ ?_; focus (omega; done))
        | (refine And.intro ?_ ?_; focus (exact ⟨xs, rfl⟩))
        | (refine And.intro ?_ ?_; focus (exact ⟨_, rfl, by omega⟩))
        | (refine And.intro ?_ ?_; focus (exact ⟨⟨_, rfl, by omega⟩, _, rfl, by omega⟩))
        | (refine And.intro ?_ ?_; focus (exact ⟨⟨_, rfl, by omega⟩, [], rfl, by simp⟩))
        | (refine And.intro ?_ ?_; focus (exact ⟨⟨_, rfl⟩, _, rfl⟩))
        | (refine And.intro ?_ ?_; focus (exact ⟨by omega, by omega, rowsOf_w _⟩))
        | (refine And.intro ?_ ?_; focus (exact ⟨by omega, by omega, fun r hr => by simp only [List.mem_cons, List.not_mem_nil, or_false] at hr; subst hr; rfl⟩))
        | (refine And.intro ?_ ?_; focus (exact ⟨⟨_, rfl, by omega⟩, _, rfl, by simp only [List.length_append, List.length_cons, List.length_nil]; omega⟩))
        | (refine And.intro ?_ ?_; focus (exact ⟨_, rfl, by simp only [List.length_append, List.length_cons, List.length_nil]; omega⟩))
        | (refine And.intro ?_ ?_; focus (exact ⟨_, rfl⟩))
        | (refine And.intro ?_ ?_; focus (exact ⟨⟨_, rfl, rfl, by omega⟩, _, rfl⟩))
        | (refine And.intro ?_ ?_; focus (exact ⟨⟨_, rfl, rfl, by omega⟩, _, rfl, rfl⟩))
        | (refine And.intro ?_ ?_; focus (kernel_rfl))
      exact ⟨_, [], rfl, ⟨⟨⟨rfl, rfl, rfl⟩, trivial⟩, trivial, by simp [rn, hpAt]⟩⟩
    · have hd' : ((d.length : Int) = 0) = True := eq_true hd
      have hdb : ((d.length : Int) == 0) = true := beq_iff_eq.2 hd
      have hz' : (n == 0) = false := by rw [hz]; simp only [hd', decide_true, decide_false]; rfl
      simp (maxSteps := 3000000) only [Try.f6, lsgb, e20, ← hys, hV', hs, hq, hm, hz', hd', hdb, w1, ha, beq_self_eq_true, decide_true, decide_false, g_segLong, ocOf, g_drawSg, bytesOf_rows, rowsOf_len, rgsOf_rows, rgRows_len, ↓reduceIte, Bool.false_eq_true, Bool.not_true, Bool.not_false, tYs, evL, implies_true, oMin, x_max, oMax, oCopy, oBin, oUn, oLoadKid, oStoreTree, oField, oExtract, oNil, oSliceQ, oSliceE, x_appendZ, oAppendZ, oSliceEnd, endMode, oLoadRow, takeCells, TS.atRow, TS.ex, treeMode, AV.isOwn, TK.isSl, nilTk, nilsB, oLenQ, oLen, nodupB, treeOf, kidAbs, kidRows, TK.isCell, D.toL, oLoad, oStore, oMake, oIndexAddr, ↓reduceIte, reduceCtorEq, Nat.reduceBEq, Nat.reduceAdd, Nat.reduceMul, Nat.reduceLT, Nat.reduceSub, Nat.reduceLeDiff, Nat.reduceEqDiff, Nat.reduceBneDiff, Int.reduceToNat, decide_eq_true_eq, decide_eq_false_iff_not, beq_iff_eq, Int.toNat_natCast, loopK_normal, loopK_exit, loopK_ret, bne_self_eq_false]
      repeat' first
        | (refine And.intro ?_ ?_; focus (omega; done))
        | (refine And.intro ?_ ?_; focus (exact ⟨xs, rfl⟩))
        | (refine And.intro ?_ ?_; focus (exact ⟨_, rfl, by omega⟩))
        | (refine And.intro ?_ ?_; focus (exact ⟨⟨_, rfl, by omega⟩, _, rfl, by omega⟩))
        | (refine And.intro ?_ ?_; focus (exact ⟨⟨_, rfl, by omega⟩, [], rfl, by simp⟩))
        | (refine And.intro ?_ ?_; focus (exact ⟨⟨_, rfl⟩, _, rfl⟩))
        | (refine And.intro ?_ ?_; focus (exact ⟨by omega, by omega, rowsOf_w _⟩))
        | (refine And.intro ?_ ?_; focus (exact ⟨by omega, by omega, fun r hr => by simp only [List.mem_cons, List.not_mem_nil, or_false] at hr; subst hr; rfl⟩))
        | (refine And.intro ?_ ?_; focus (exact ⟨⟨_, rfl, by omega⟩, _, rfl, by simp only [List.length_append, List.length_cons, List.length_nil]; omega⟩))
        | (refine And.intro ?_ ?_; focus (exact ⟨_, rfl, by simp only [List.length_append, List.length_cons, List.length_nil]; omega⟩))
        | (refine And.intro ?_ ?_; focus (exact ⟨_, rfl⟩))
        | (refine And.intro ?_ ?_; focus (exact ⟨⟨_, rfl, rfl, by omega⟩, _, rfl⟩))
        | (refine And.intro ?_ ?_; focus (exact ⟨⟨_, rfl, rfl, by omega⟩, _, rfl, rfl⟩))
        | (refine And.intro ?_ ?_; focus (kernel_rfl))
      exact ⟨_, [], rfl, ⟨⟨⟨rfl, rfl, rfl⟩, trivial⟩, trivial, by simp [rn, hpAt]⟩⟩
    · have hd' : ((d.length : Int) = 0) = False := eq_false hd
      have hdb : ((d.length : Int) == 0) = false := beq_eq_false_iff_ne.2 hd
      have hz' : (n == 0) = false := by rw [hz]; simp only [hd', decide_true, decide_false]; rfl
      simp (maxSteps := 3000000) only [Try.f6, lsgb, e20, ← hys, hV', hs, hq, hm, hz', hd', hdb, w1, ha, beq_self_eq_true, decide_true, decide_false, g_segLong, ocOf, g_drawSg, bytesOf_rows, rowsOf_len, rgsOf_rows, rgRows_len, ↓reduceIte, Bool.false_eq_true, Bool.not_true, Bool.not_false, tYs, evL, implies_true, oMin, x_max, oMax, oCopy, oBin, oUn, oLoadKid, oStoreTree, oField, oExtract, oNil, oSliceQ, oSliceE, x_appendZ, oAppendZ, oSliceEnd, endMode, oLoadRow, takeCells, TS.atRow, TS.ex, treeMode, AV.isOwn, TK.isSl, nilTk, nilsB, oLenQ, oLen, nodupB, treeOf, kidAbs, kidRows, TK.isCell, D.toL, oLoad, oStore, oMake, oIndexAddr, ↓reduceIte, reduceCtorEq, Nat.reduceBEq, Nat.reduceAdd, Nat.reduceMul, Nat.reduceLT, Nat.reduceSub, Nat.reduceLeDiff, Nat.reduceEqDiff, Nat.reduceBneDiff, Int.reduceToNat, decide_eq_true_eq, decide_eq_false_iff_not, beq_iff_eq, Int.toNat_natCast, loopK_normal, loopK_exit, loopK_ret, bne_self_eq_false]
      repeat' first
        | (refine And.intro ?_ ?_; focus (omega; done))
        | (refine And.intro ?_ ?_; focus (exact ⟨xs, rfl⟩))
        | (refine And.intro ?_ ?_; focus (exact ⟨_, rfl, by omega⟩))
        | (refine And.intro ?_ ?_; focus (exact ⟨⟨_, rfl, by omega⟩, _, rfl, by omega⟩))
        | (refine And.intro ?_ ?_; focus (exact ⟨⟨_, rfl, by omega⟩, [], rfl, by simp⟩))
        | (refine And.intro ?_ ?_; focus (exact ⟨⟨_, rfl⟩, _, rfl⟩))
        | (refine And.intro ?_ ?_; focus (exact ⟨by omega, by omega, rowsOf_w _⟩))
        | (refine And.intro ?_ ?_; focus (exact ⟨by omega, by omega, fun r hr => by simp only [List.mem_cons, List.not_mem_nil, or_false] at hr; subst hr; rfl⟩))
        | (refine And.intro ?_ ?_; focus (exact ⟨⟨_, rfl, by omega⟩, _, rfl, by simp only [List.length_append, List.length_cons, List.length_nil]; omega⟩))
        | (refine And.intro ?_ ?_; focus (exact ⟨_, rfl, by simp only [List.length_append, List.length_cons, List.length_nil]; omega⟩))
        | (refine And.intro ?_ ?_; focus (exact ⟨_, rfl⟩))
        | (refine And.intro ?_ ?_; focus (exact ⟨⟨_, rfl, rfl, by omega⟩, _, rfl⟩))
        | (refine And.intro ?_ ?_; focus (exact ⟨⟨_, rfl, rfl, by omega⟩, _, rfl, rfl⟩))
        | (refine And.intro ?_ ?_; focus (kernel_rfl))
      exact ⟨_, [], rfl, ⟨⟨⟨rfl, rfl, rfl⟩, trivial⟩, trivial, by simp [rn, hpAt]⟩⟩
  · cases hg
theorem walk_SegmentLong (A : Option Addr) (n c : Nat) (xs : List UInt8) (w : World) (h : Rd w w.heap.size A n (bv xs)) (hc : n ≤ c) :
    Calls Try.prog 6 #[.slice A n c] w fun e w' => e = .returned (.bool true) ∧ Below w.heap.size w w' :=
  lawSegmentLong_ok.walk (vs := [_]) (arel_cons (.l _ _ _ (rep_of_rd h hc)) arel_nil) rfl ⟨xs, rfl⟩
theorem sfS_bd (b : List UInt8) (a t : Int) : (sfS b a t).rs.length ≤ 2 ∧ (sfS b a t).d.length ≤ 12 := by
  cases h : sfOk b a t with
  | true =>
    rw [sfS_yes h]
    simp only [sfOk, Bool.and_eq_true] at h
    obtain ⟨_, _, _, _, _, k6, k7, _⟩ := sgB_iff.1 h.1.2
    exact ⟨k6, k7⟩
  | false => rw [sfS_no h]; exact ⟨Nat.zero_le _, Nat.zero_le _⟩
def lsgc : List (FuncId × Abs) := [(14, pureAbs g_alive), (17, pureAbs g_sameBytes), (20, pureAbs g_sameSg), (16, pureAbs g_segBytes), (19, pureAbs g_segFrom), (18, pureAbs g_segBytes), (15, ownAbs (ocOf g_drawSgb))]
theorem lsgc_ok : ∀ p ∈ lsgc, CallOk Try.prog p.1 p.2 := by
  intro p hp
  simp only [lsgc, List.mem_cons, List.not_mem_nil, or_false] at hp
  rcases hp with rfl | rfl | rfl | rfl | rfl | rfl | rfl
  · exact alive_ok.call
  · exact sameBytes_ok.call
  · exact sameSegment_ok.call
  · exact implSegmentBytes_ok.call
  · exact implSegmentFrom_ok.call
  · exact specSegmentBytes_ok.call
  · exact drawSegmentBytes_ok.call
set_option maxHeartbeats 8000000 in
set_option maxRecDepth 100000 in
theorem lawSegmentBytes_ok : PureOk Try.prog 4 g_true := by
  refine PureOk.of_vc (G := lsgc) lsgc_ok mixed Try.func4 (by kernel_rfl) rfl ?_
  intro args cnd r bs hg hc
  unfold g_true at hg
  split at hg
  · rename_i sz rows
    cases hg
    obtain ⟨xs, rfl⟩ := hc
    refine ⟨⟨rfl, by simp, by simp [AV.ids, AV.ids.idsL]⟩, [.l 1 (rowsOfBytes xs)], rfl, fun w vs h => CvL.ok (.cons (.l _ _ _ (rowsOf_w xs)) .nil) h, ?_⟩
    obtain ⟨ys, hys⟩ : ∃ ys, ys = List.take 2000 xs := ⟨_, rfl⟩
    by_cases h20 : (xs.length : Int) > 1048576
    · have e20 : ((xs.length : Int) > 1048576) = True := eq_true h20
      simp (maxSteps := 3000000) only [Try.f4, lsgc, e20, g_alive, g_sameBytes, g_sameSg, g_segBytes, g_segFrom, ocOf, g_drawSgb, bytesOf_rows, rowsOf_len, rgsOf_rows, rgRows_len, ↓reduceIte, Bool.false_eq_true, Bool.not_true, Bool.not_false, tYs, evL, implies_true, oMin, x_max, oMax, oCopy, oBin, oUn, oLoadKid, oStoreTree, oField, oExtract, oNil, oSliceQ, oSliceE, x_appendZ, oAppendZ, oSliceEnd, endMode, oLoadRow, takeCells, TS.atRow, TS.ex, treeMode, AV.isOwn, TK.isSl, nilTk, nilsB, oLenQ, oLen, nodupB, treeOf, kidAbs, kidRows, TK.isCell, D.toL, oLoad, oStore, oMake, oIndexAddr, ↓reduceIte, reduceCtorEq, Nat.reduceBEq, Nat.reduceAdd, Nat.reduceMul, Nat.reduceLT, Nat.reduceSub, Nat.reduceLeDiff, Nat.reduceEqDiff, Nat.reduceBneDiff, Int.reduceToNat, decide_eq_true_eq, decide_eq_false_iff_not, beq_iff_eq, Int.toNat_natCast, loopK_normal, loopK_exit, loopK_ret, bne_self_eq_false]
      exact ⟨_, [], rfl, ⟨⟨⟨rfl, rfl, rfl⟩, trivial⟩, trivial, by simp [rn, hpAt]⟩⟩
    have e20 : ((xs.length : Int) > 1048576) = False := eq_false h20
    have hmid := swV_mid ys 0 8 (by omega)
    have hq := swV_q ys 0 8
    obtain ⟨V, hV⟩ : ∃ V, V = dsbS ys := ⟨_, rfl⟩
    have hV' := hV.symm
    rw [show swV ys 0 8 = V from hV'] at hmid hq
    obtain ⟨n1, n2, n3, n4, n5, n6, n7⟩ := hmid
    obtain ⟨A, hA⟩ : ∃ A, A = dsbA ys := ⟨_, rfl⟩
    have hA' := hA.symm
    obtain ⟨T, hT⟩ : ∃ T, T = dsbB ys := ⟨_, rfl⟩
    have hT' := hT.symm
    have hAb : 0 ≤ A ∧ A ≤ 4 := by
      have t0 := pickV_nonneg ys V.q 5 (by omega)
      have t1 := pickV_lt ys V.q 5 (by omega)
      rw [hA, dsbA, hV']; omega
    clear hV hA hT
    have w1 : IntKind.i64.wrap (A + 1) = A + 1 := wrap_id (by omega) (by omega)
    obtain ⟨B, hB⟩ : ∃ B, B = sgV ⟨V.s.f, V.s.t, V.s.sq, V.s.ak, V.s.rm, V.s.fi, V.s.he, V.s.la, V.s.re, V.s.rs, V.s.d⟩ A T := ⟨_, rfl⟩
    have hB' := hB.symm
    have hBl : B.length ≤ 32 := by rw [hB]; exact sgV_le _ _ _
    rcases hok : sgO V.s A T with _ | _
    · have hE : B = [] := by rw [hB]; exact sgV_nil (s := V.s) hok
      subst hE
      have hz : (((0 : Nat) : Int) = 0) = True := eq_true rfl
      simp (maxSteps := 3000000) only [Try.f4, lsgc, e20, ← hys, hV', hA', hT', hB', hz, List.length_nil, beq_self_eq_true, g_alive, g_sameBytes, g_sameSg, g_segBytes, g_segFrom, ocOf, g_drawSgb, bytesOf_rows, rowsOf_len, rgsOf_rows, rgRows_len, ↓reduceIte, Bool.false_eq_true, Bool.not_true, Bool.not_false, tYs, evL, implies_true, oMin, x_max, oMax, oCopy, oBin, oUn, oLoadKid, oStoreTree, oField, oExtract, oNil, oSliceQ, oSliceE, x_appendZ, oAppendZ, oSliceEnd, endMode, oLoadRow, takeCells, TS.atRow, TS.ex, treeMode, AV.isOwn, TK.isSl, nilTk, nilsB, oLenQ, oLen, nodupB, treeOf, kidAbs, kidRows, TK.isCell, D.toL, oLoad, oStore, oMake, oIndexAddr, ↓reduceIte, reduceCtorEq, Nat.reduceBEq, Nat.reduceAdd, Nat.reduceMul, Nat.reduceLT, Nat.reduceSub, Nat.reduceLeDiff, Nat.reduceEqDiff, Nat.reduceBneDiff, Int.reduceToNat, decide_eq_true_eq, decide_eq_false_iff_not, beq_iff_eq, Int.toNat_natCast, loopK_normal, loopK_exit, loopK_ret, bne_self_eq_false]
      repeat' first
        | (refine And.intro ?_ ?_; focus (omega; done))
        | (refine And.intro ?_ ?_; focus (exact ⟨xs, rfl⟩))
        | (refine And.intro ?_ ?_; focus (exact ⟨_, rfl, by omega⟩))
        | (refine And.intro ?_ ?_; focus (exact ⟨⟨_, rfl, by omega⟩, _, rfl, by omega⟩))
        | (refine And.intro ?_ ?_; focus (exact ⟨⟨_, rfl, by omega⟩, [], rfl, by simp⟩))
        | (refine And.intro ?_ ?_; focus (exact ⟨⟨_, rfl⟩, _, rfl⟩))
        | (refine And.intro ?_ ?_; focus (exact ⟨by omega, by omega, rowsOf_w _⟩))
        | (refine And.intro ?_ ?_; focus (exact ⟨by omega, by omega, fun r hr => by simp only [List.mem_cons, List.not_mem_nil, or_false] at hr; subst hr; rfl⟩))
        | (refine And.intro ?_ ?_; focus (exact ⟨⟨_, rfl, by omega⟩, _, rfl, by simp only [List.length_append, List.length_cons, List.length_nil]; omega⟩))
        | (refine And.intro ?_ ?_; focus (exact ⟨_, rfl, by simp only [List.length_append, List.length_cons, List.length_nil]; omega⟩))
        | (refine And.intro ?_ ?_; focus (exact ⟨_, rfl⟩))
        | (refine And.intro ?_ ?_; focus (exact ⟨⟨_, rfl, rfl, by omega⟩, _, rfl⟩))
        | (refine And.intro ?_ ?_; focus (exact ⟨⟨_, rfl, rfl, by omega⟩, _, rfl, rfl⟩))
        | (refine And.intro ?_ ?_; focus (kernel_rfl))
      exact ⟨_, [], rfl, ⟨⟨⟨rfl, rfl, rfl⟩, trivial⟩, trivial, by simp [rn, hpAt]⟩⟩
    · obtain ⟨k0, k1, k2⟩ := sg_back hok
      have hl := sgV_len hok
      rw [show sgV V.s A T = B from hB'] at k0 k1 k2 hl
      have hne : ((B.length : Int) = 0) = False := eq_false (by omega)
      have hneb : ((B.length : Int) == 0) = false := by rw [beq_eq_false_iff_ne]; omega
      have hS : sfS B A T = V.s := by rw [sfS_yes k0, k1]
      simp (maxSteps := 3000000) only [Try.f4, lsgc, e20, ← hys, hV', hA', hT', hB', hne, hneb, k0, k2, hS, w1, beq_self_eq_true, g_alive, g_sameBytes, g_sameSg, g_segBytes, g_segFrom, ocOf, g_drawSgb, bytesOf_rows, rowsOf_len, rgsOf_rows, rgRows_len, ↓reduceIte, Bool.false_eq_true, Bool.not_true, Bool.not_false, tYs, evL, implies_true, oMin, x_max, oMax, oCopy, oBin, oUn, oLoadKid, oStoreTree, oField, oExtract, oNil, oSliceQ, oSliceE, x_appendZ, oAppendZ, oSliceEnd, endMode, oLoadRow, takeCells, TS.atRow, TS.ex, treeMode, AV.isOwn, TK.isSl, nilTk, nilsB, oLenQ, oLen, nodupB, treeOf, kidAbs, kidRows, TK.isCell, D.toL, oLoad, oStore, oMake, oIndexAddr, ↓reduceIte, reduceCtorEq, Nat.reduceBEq, Nat.reduceAdd, Nat.reduceMul, Nat.reduceLT, Nat.reduceSub, Nat.reduceLeDiff, Nat.reduceEqDiff, Nat.reduceBneDiff, Int.reduceToNat, decide_eq_true_eq, decide_eq_false_iff_not, beq_iff_eq, Int.toNat_natCast, loopK_normal, loopK_exit, loopK_ret, bne_self_eq_false]
      repeat' first
        | (refine And.intro ?_ ?_; focus (omega; done))
        | (refine And.intro ?_ ?_; focus (exact ⟨xs, rfl⟩))
        | (refine And.intro ?_ ?_; focus (exact ⟨_, rfl, by omega⟩))
        | (refine And.intro ?_ ?_; focus (exact ⟨⟨_, rfl, by omega⟩, _, rfl, by omega⟩))
        | (refine And.intro ?_ ?_; focus (exact ⟨⟨_, rfl, by omega⟩, [], rfl, by simp⟩))
        | (refine And.intro ?_ ?_; focus (exact ⟨⟨_, rfl⟩, _, rfl⟩))
        | (refine And.intro ?_ ?_; focus (exact ⟨by omega, by omega, rowsOf_w _⟩))
        | (refine And.intro ?_ ?_; focus (exact ⟨by omega, by omega, fun r hr => by simp only [List.mem_cons, List.not_mem_nil, or_false] at hr; subst hr; rfl⟩))
        | (refine And.intro ?_ ?_; focus (exact ⟨⟨_, rfl, by omega⟩, _, rfl, by simp only [List.length_append, List.length_cons, List.length_nil]; omega⟩))
        | (refine And.intro ?_ ?_; focus (exact ⟨_, rfl, by simp only [List.length_append, List.length_cons, List.length_nil]; omega⟩))
        | (refine And.intro ?_ ?_; focus (exact ⟨_, rfl⟩))
        | (refine And.intro ?_ ?_; focus (exact ⟨⟨_, rfl, rfl, by omega⟩, _, rfl⟩))
        | (refine And.intro ?_ ?_; focus (exact ⟨⟨_, rfl, rfl, by omega⟩, _, rfl, rfl⟩))
        | (refine And.intro ?_ ?_; focus (kernel_rfl))
      exact ⟨_, [], rfl, ⟨⟨⟨rfl, rfl, rfl⟩, trivial⟩, trivial, by simp [rn, hpAt]⟩⟩
  · cases hg
theorem walk_SegmentBytes (A : Option Addr) (n c : Nat) (xs : List UInt8) (w : World) (h : Rd w w.heap.size A n (bv xs)) (hc : n ≤ c) :
    Calls Try.prog 4 #[.slice A n c] w fun e w' => e = .returned (.bool true) ∧ Below w.heap.size w w' :=
  lawSegmentBytes_ok.walk (vs := [_]) (arel_cons (.l _ _ _ (rep_of_rd h hc)) arel_nil) rfl ⟨xs, rfl⟩
def lsgd : List (FuncId × Abs) := [(14, pureAbs g_alive), (17, pureAbs g_sameBytes), (20, pureAbs g_sameSg), (16, pureAbs g_segBytes), (19, pureAbs g_segFrom), (22, pureAbs g_segFrom), (21, ownAbs (ocOf g_drawSgf))]
theorem lsgd_ok : ∀ p ∈ lsgd, CallOk Try.prog p.1 p.2 := by
  intro p hp
  simp only [lsgd, List.mem_cons, List.not_mem_nil, or_false] at hp
  rcases hp with rfl | rfl | rfl | rfl | rfl | rfl | rfl
  · exact alive_ok.call
  · exact sameBytes_ok.call
  · exact sameSegment_ok.call
  · exact implSegmentBytes_ok.call
  · exact implSegmentFrom_ok.call
  · exact specSegmentFrom_ok.call
  · exact drawSegmentFrom_ok.call
set_option maxHeartbeats 8000000 in
set_option maxRecDepth 100000 in
theorem lawSegmentFrom_ok : PureOk Try.prog 5 g_true := by
  refine PureOk.of_vc (G := lsgd) lsgd_ok mixed Try.func5 (by kernel_rfl) rfl ?_
  intro args cnd r bs hg hc
  unfold g_true at hg
  split at hg
  · rename_i sz rows
    cases hg
    obtain ⟨xs, rfl⟩ := hc
    refine ⟨⟨rfl, by simp, by simp [AV.ids, AV.ids.idsL]⟩, [.l 1 (rowsOfBytes xs)], rfl, fun w vs h => CvL.ok (.cons (.l _ _ _ (rowsOf_w xs)) .nil) h, ?_⟩
    obtain ⟨ys, hys⟩ : ∃ ys, ys = List.take 2000 xs := ⟨_, rfl⟩
    by_cases h20 : (xs.length : Int) > 1048576
    · have e20 : ((xs.length : Int) > 1048576) = True := eq_true h20
      simp (maxSteps := 3000000) only [Try.f5, lsgd, e20, g_alive, g_sameBytes, g_sameSg, g_segBytes, g_segFrom, ocOf, g_drawSgf, bytesOf_rows, rowsOf_len, rgsOf_rows, rgRows_len, ↓reduceIte, Bool.false_eq_true, Bool.not_true, Bool.not_false, tYs, evL, implies_true, oMin, x_max, oMax, oCopy, oBin, oUn, oLoadKid, oStoreTree, oField, oExtract, oNil, oSliceQ, oSliceE, x_appendZ, oAppendZ, oSliceEnd, endMode, oLoadRow, takeCells, TS.atRow, TS.ex, treeMode, AV.isOwn, TK.isSl, nilTk, nilsB, oLenQ, oLen, nodupB, treeOf, kidAbs, kidRows, TK.isCell, D.toL, oLoad, oStore, oMake, oIndexAddr, ↓reduceIte, reduceCtorEq, Nat.reduceBEq, Nat.reduceAdd, Nat.reduceMul, Nat.reduceLT, Nat.reduceSub, Nat.reduceLeDiff, Nat.reduceEqDiff, Nat.reduceBneDiff, Int.reduceToNat, decide_eq_true_eq, decide_eq_false_iff_not, beq_iff_eq, Int.toNat_natCast, loopK_normal, loopK_exit, loopK_ret, bne_self_eq_false]
      exact ⟨_, [], rfl, ⟨⟨⟨rfl, rfl, rfl⟩, trivial⟩, trivial, by simp [rn, hpAt]⟩⟩
    have e20 : ((xs.length : Int) > 1048576) = False := eq_false h20
    have hb := dsfB_len ys
    obtain ⟨B, hB⟩ : ∃ B, B = dsfB ys := ⟨_, rfl⟩
    have hB' := hB.symm
    rw [hB'] at hb
    obtain ⟨A, hA⟩ : ∃ A, A = dsfA ys := ⟨_, rfl⟩
    have hA' := hA.symm
    obtain ⟨T, hT⟩ : ∃ T, T = dsfT ys := ⟨_, rfl⟩
    have hT' := hT.symm
    clear hB hA hT
    have hmb := sfS_bd B A T
    obtain ⟨M, hM⟩ : ∃ M, M = sfS B A T := ⟨_, rfl⟩
    have hm := hM.symm
    rw [hm] at hmb
    have hm1 := hmb.1
    have hm2 := hmb.2
    clear hmb
    have ha : rowsOfBytes B ++ [[D.v (.int .u8 0)]] = rowsOfBytes (B ++ [0]) := by rw [← rowsOf_app]; rfl
    rcases hok : sfOk B A T with _ | _
    · simp (maxSteps := 3000000) only [Try.f5, lsgd, e20, ← hys, hB', hA', hT', hm, hok, beq_self_eq_true, g_alive, g_sameBytes, g_sameSg, g_segBytes, g_segFrom, ocOf, g_drawSgf, bytesOf_rows, rowsOf_len, rgsOf_rows, rgRows_len, ↓reduceIte, Bool.false_eq_true, Bool.not_true, Bool.not_false, tYs, evL, implies_true, oMin, x_max, oMax, oCopy, oBin, oUn, oLoadKid, oStoreTree, oField, oExtract, oNil, oSliceQ, oSliceE, x_appendZ, oAppendZ, oSliceEnd, endMode, oLoadRow, takeCells, TS.atRow, TS.ex, treeMode, AV.isOwn, TK.isSl, nilTk, nilsB, oLenQ, oLen, nodupB, treeOf, kidAbs, kidRows, TK.isCell, D.toL, oLoad, oStore, oMake, oIndexAddr, ↓reduceIte, reduceCtorEq, Nat.reduceBEq, Nat.reduceAdd, Nat.reduceMul, Nat.reduceLT, Nat.reduceSub, Nat.reduceLeDiff, Nat.reduceEqDiff, Nat.reduceBneDiff, Int.reduceToNat, decide_eq_true_eq, decide_eq_false_iff_not, beq_iff_eq, Int.toNat_natCast, loopK_normal, loopK_exit, loopK_ret, bne_self_eq_false]
      repeat' first
        | (refine And.intro ?_ ?_; focus (omega; done))
        | (refine And.intro ?_ ?_; focus (exact ⟨xs, rfl⟩))
        | (refine And.intro ?_ ?_; focus (exact ⟨_, rfl, by omega⟩))
        | (refine And.intro ?_ ?_; focus (exact ⟨⟨_, rfl, by omega⟩, _, rfl, by omega⟩))
        | (refine And.intro ?_ ?_; focus (exact ⟨⟨_, rfl, by omega⟩, [], rfl, by simp⟩))
        | (refine And.intro ?_ ?_; focus (exact ⟨⟨_, rfl⟩, _, rfl⟩))
        | (refine And.intro ?_ ?_; focus (exact ⟨by omega, by omega, rowsOf_w _⟩))
        | (refine And.intro ?_ ?_; focus (exact ⟨by omega, by omega, fun r hr => by simp only [List.mem_cons, List.not_mem_nil, or_false] at hr; subst hr; rfl⟩))
        | (refine And.intro ?_ ?_; focus (exact ⟨⟨_, rfl, by omega⟩, _, rfl, by simp only [List.length_append, List.length_cons, List.length_nil]; omega⟩))
        | (refine And.intro ?_ ?_; focus (exact ⟨_, rfl, by simp only [List.length_append, List.length_cons, List.length_nil]; omega⟩))
        | (refine And.intro ?_ ?_; focus (exact ⟨_, rfl⟩))
        | (refine And.intro ?_ ?_; focus (exact ⟨⟨_, rfl, rfl, by omega⟩, _, rfl⟩))
        | (refine And.intro ?_ ?_; focus (exact ⟨⟨_, rfl, rfl, by omega⟩, _, rfl, rfl⟩))
        | (refine And.intro ?_ ?_; focus (kernel_rfl))
      refine e_loop _ _ _ _ _ _ _ _ (fun k : Nat => [.any, .any, .any, .l 1 (rowsOfBytes B), .v (.int .i64 A), .v (.int .i64 T), .any, .v (.bool false), .any, .any, .v (.int .i64 0)] ++ List.replicate (Try.f5.ntmps - 11) .any) (fun k => []) (fun k => k = 0) (fun k => 0) 0 (fun k => by simp) ?_ fun k hk' => ?_
      · exact ⟨0, [], rfl, ⟨⟨trivial, trivial, trivial, ⟨rfl, rfl, rfl⟩, ⟨rfl, rfl, rfl⟩, ⟨rfl, rfl, rfl⟩, trivial, ⟨rfl, rfl, rfl⟩, trivial, trivial, ⟨rfl, rfl, rfl⟩, fitT_rep _ _ rfl⟩, trivial, by simp [rn, hpAt]⟩, by simp [keepIds]⟩
      subst hk'
      by_cases hl : B.length = 0
      · have hlt : ((0 : Int) < (B.length : Int)) = False := eq_false (by omega)
        simp (maxSteps := 3000000) only [Try.f5, lsgd, e20, ← hys, hB', hA', hT', hm, hlt, ha, beq_self_eq_true, g_alive, g_sameBytes, g_sameSg, g_segBytes, g_segFrom, ocOf, g_drawSgf, bytesOf_rows, rowsOf_len, rgsOf_rows, rgRows_len, ↓reduceIte, Bool.false_eq_true, Bool.not_true, Bool.not_false, tYs, evL, implies_true, oMin, x_max, oMax, oCopy, oBin, oUn, oLoadKid, oStoreTree, oField, oExtract, oNil, oSliceQ, oSliceE, x_appendZ, oAppendZ, oSliceEnd, endMode, oLoadRow, takeCells, TS.atRow, TS.ex, treeMode, AV.isOwn, TK.isSl, nilTk, nilsB, oLenQ, oLen, nodupB, treeOf, kidAbs, kidRows, TK.isCell, D.toL, oLoad, oStore, oMake, oIndexAddr, ↓reduceIte, reduceCtorEq, Nat.reduceBEq, Nat.reduceAdd, Nat.reduceMul, Nat.reduceLT, Nat.reduceSub, Nat.reduceLeDiff, Nat.reduceEqDiff, Nat.reduceBneDiff, Int.reduceToNat, decide_eq_true_eq, decide_eq_false_iff_not, beq_iff_eq, Int.toNat_natCast, loopK_normal, loopK_exit, loopK_ret, bne_self_eq_false]
        repeat' first
          | (refine And.intro ?_ ?_; focus (omega; done))
          | (refine And.intro ?_ ?_; focus (exact ⟨xs, rfl⟩))
          | (refine And.intro ?_ ?_; focus (exact ⟨_, rfl, by omega⟩))
          | (refine And.intro ?_ ?_; focus (exact ⟨⟨_, rfl, by omega⟩, _, rfl, by omega⟩))
          | (refine And.intro ?_ ?_; focus (exact ⟨⟨_, rfl, by omega⟩, [], rfl, by simp⟩))
          | (refine And.intro ?_ ?_; focus (exact ⟨⟨_, rfl⟩, _, rfl⟩))
          | (refine And.intro ?_ ?_; focus (exact ⟨by omega, by omega, rowsOf_w _⟩))
          | (refine And.intro ?_ ?_; focus (exact ⟨by omega, by omega, fun r hr => by simp only [List.mem_cons, List.not_mem_nil, or_false] at hr; subst hr; rfl⟩))
          | (refine And.intro ?_ ?_; focus (exact ⟨⟨_, rfl, by omega⟩, _, rfl, by simp only [List.length_append, List.length_cons, List.length_nil]; omega⟩))
          | (refine And.intro ?_ ?_; focus (exact ⟨_, rfl, by simp only [List.length_append, List.length_cons, List.length_nil]; omega⟩))
          | (refine And.intro ?_ ?_; focus (exact ⟨_, rfl⟩))
          | (refine And.intro ?_ ?_; focus (exact ⟨⟨_, rfl, rfl, by omega⟩, _, rfl⟩))
          | (refine And.intro ?_ ?_; focus (exact ⟨⟨_, rfl, rfl, by omega⟩, _, rfl, rfl⟩))
          | (refine And.intro ?_ ?_; focus (kernel_rfl))
        exact ⟨_, [], rfl, ⟨⟨⟨rfl, rfl, rfl⟩, trivial⟩, trivial, by simp [rn, hpAt]⟩⟩
      · have hlt : ((0 : Int) < (B.length : Int)) = True := eq_true (by omega)
        simp (maxSteps := 3000000) only [Try.f5, lsgd, e20, ← hys, hB', hA', hT', hm, hlt, ha, beq_self_eq_true, g_alive, g_sameBytes, g_sameSg, g_segBytes, g_segFrom, ocOf, g_drawSgf, bytesOf_rows, rowsOf_len, rgsOf_rows, rgRows_len, ↓reduceIte, Bool.false_eq_true, Bool.not_true, Bool.not_false, tYs, evL, implies_true, oMin, x_max, oMax, oCopy, oBin, oUn, oLoadKid, oStoreTree, oField, oExtract, oNil, oSliceQ, oSliceE, x_appendZ, oAppendZ, oSliceEnd, endMode, oLoadRow, takeCells, TS.atRow, TS.ex, treeMode, AV.isOwn, TK.isSl, nilTk, nilsB, oLenQ, oLen, nodupB, treeOf, kidAbs, kidRows, TK.isCell, D.toL, oLoad, oStore, oMake, oIndexAddr, ↓reduceIte, reduceCtorEq, Nat.reduceBEq, Nat.reduceAdd, Nat.reduceMul, Nat.reduceLT, Nat.reduceSub, Nat.reduceLeDiff, Nat.reduceEqDiff, Nat.reduceBneDiff, Int.reduceToNat, decide_eq_true_eq, decide_eq_false_iff_not, beq_iff_eq, Int.toNat_natCast, loopK_normal, loopK_exit, loopK_ret, bne_self_eq_false]
        repeat' first
          | (refine And.intro ?_ ?_; focus (omega; done))
          | (refine And.intro ?_ ?_; focus (exact ⟨xs, rfl⟩))
          | (refine And.intro ?_ ?_; focus (exact ⟨_, rfl, by omega⟩))
          | (refine And.intro ?_ ?_; focus (exact ⟨⟨_, rfl, by omega⟩, _, rfl, by omega⟩))
          | (refine And.intro ?_ ?_; focus (exact ⟨⟨_, rfl, by omega⟩, [], rfl, by simp⟩))
          | (refine And.intro ?_ ?_; focus (exact ⟨⟨_, rfl⟩, _, rfl⟩))
          | (refine And.intro ?_ ?_; focus (exact ⟨by omega, by omega, rowsOf_w _⟩))
          | (refine And.intro ?_ ?_; focus (exact ⟨by omega, by omega, fun r hr => by simp only [List.mem_cons, List.not_mem_nil, or_false] at hr; subst hr; rfl⟩))
          | (refine And.intro ?_ ?_; focus (exact ⟨⟨_, rfl, by omega⟩, _, rfl, by simp only [List.length_append, List.length_cons, List.length_nil]; omega⟩))
          | (refine And.intro ?_ ?_; focus (exact ⟨_, rfl, by simp only [List.length_append, List.length_cons, List.length_nil]; omega⟩))
          | (refine And.intro ?_ ?_; focus (exact ⟨_, rfl⟩))
          | (refine And.intro ?_ ?_; focus (exact ⟨⟨_, rfl, rfl, by omega⟩, _, rfl⟩))
          | (refine And.intro ?_ ?_; focus (exact ⟨⟨_, rfl, rfl, by omega⟩, _, rfl, rfl⟩))
          | (refine And.intro ?_ ?_; focus (kernel_rfl))
        exact ⟨_, [], rfl, ⟨⟨⟨rfl, rfl, rfl⟩, trivial⟩, trivial, by simp [rn, hpAt]⟩⟩
    · have hsent : sgV ⟨M.f, M.t, M.sq, M.ak, M.rm, M.fi, M.he, M.la, M.re, M.rs, M.d⟩ A T = B := by rw [hM, sfS_yes hok]; exact sf_sent hok
      have hmore := sf_more hok 0
      simp (maxSteps := 3000000) only [Try.f5, lsgd, e20, ← hys, hB', hA', hT', hm, hok, beq_self_eq_true, g_alive, g_sameBytes, g_sameSg, g_segBytes, g_segFrom, ocOf, g_drawSgf, bytesOf_rows, rowsOf_len, rgsOf_rows, rgRows_len, ↓reduceIte, Bool.false_eq_true, Bool.not_true, Bool.not_false, tYs, evL, implies_true, oMin, x_max, oMax, oCopy, oBin, oUn, oLoadKid, oStoreTree, oField, oExtract, oNil, oSliceQ, oSliceE, x_appendZ, oAppendZ, oSliceEnd, endMode, oLoadRow, takeCells, TS.atRow, TS.ex, treeMode, AV.isOwn, TK.isSl, nilTk, nilsB, oLenQ, oLen, nodupB, treeOf, kidAbs, kidRows, TK.isCell, D.toL, oLoad, oStore, oMake, oIndexAddr, ↓reduceIte, reduceCtorEq, Nat.reduceBEq, Nat.reduceAdd, Nat.reduceMul, Nat.reduceLT, Nat.reduceSub, Nat.reduceLeDiff, Nat.reduceEqDiff, Nat.reduceBneDiff, Int.reduceToNat, decide_eq_true_eq, decide_eq_false_iff_not, beq_iff_eq, Int.toNat_natCast, loopK_normal, loopK_exit, loopK_ret, bne_self_eq_false]
      repeat' first
        | (refine And.intro ?_ ?_; focus (omega; done))
        | (refine And.intro ?_ ?_; focus (exact ⟨xs, rfl⟩))
        | (refine And.intro ?_ ?_; focus (exact ⟨_, rfl, by omega⟩))
        | (refine And.intro ?_ ?_; focus (exact ⟨⟨_, rfl, by omega⟩, _, rfl, by omega⟩))
        | (refine And.intro ?_ ?_; focus (exact ⟨⟨_, rfl, by omega⟩, [], rfl, by simp⟩))
        | (refine And.intro ?_ ?_; focus (exact ⟨⟨_, rfl⟩, _, rfl⟩))
        | (refine And.intro ?_ ?_; focus (exact ⟨by omega, by omega, rowsOf_w _⟩))
        | (refine And.intro ?_ ?_; focus (exact ⟨by omega, by omega, fun r hr => by simp only [List.mem_cons, List.not_mem_nil, or_false] at hr; subst hr; rfl⟩))
        | (refine And.intro ?_ ?_; focus (exact ⟨⟨_, rfl, by omega⟩, _, rfl, by simp only [List.length_append, List.length_cons, List.length_nil]; omega⟩))
        | (refine And.intro ?_ ?_; focus (exact ⟨_, rfl, by simp only [List.length_append, List.length_cons, List.length_nil]; omega⟩))
        | (refine And.intro ?_ ?_; focus (exact ⟨_, rfl⟩))
        | (refine And.intro ?_ ?_; focus (exact ⟨⟨_, rfl, rfl, by omega⟩, _, rfl⟩))
        | (refine And.intro ?_ ?_; focus (exact ⟨⟨_, rfl, rfl, by omega⟩, _, rfl, rfl⟩))
        | (refine And.intro ?_ ?_; focus (kernel_rfl))
      refine e_loop _ _ _ _ _ _ _ _ (fun k : Nat => [.any, .any, .any, .l 1 (rowsOfBytes B), .v (.int .i64 A), .v (.int .i64 T), .ptr 2 0, .v (.bool true), .any, .any, .v (.int .i64 (k : Int))] ++ List.replicate (Try.f5.ntmps - 11) .any) (fun k => [(0, .sl 57 2 (rgRows M.rs)), (1, .sl 5 1 (rowsOfBytes M.d)), (2, .var 25 [.v (.int .i64 M.f), .v (.int .i64 M.t), .v (.int .i64 M.sq), .v (.int .i64 M.ak), .v (.int .i64 M.rm), .v (.bool M.fi), .v (.bool M.he), .v (.bool M.la), .v (.bool M.re), .own 0, .own 1])]) (fun k => k ≤ B.length) (fun k => B.length - k) 3 (fun k => by simp) ?_ fun k hk' => ?_
      · exact ⟨0, [(0, some _), (1, some _), (2, some _)], Nat.zero_le _, ⟨⟨trivial, trivial, trivial, ⟨rfl, rfl, rfl⟩, ⟨rfl, rfl, rfl⟩, ⟨rfl, rfl, rfl⟩, ⟨rfl, rfl, rfl⟩, ⟨rfl, rfl, rfl⟩, trivial, trivial, ⟨rfl, rfl, rfl⟩, fitT_rep _ _ rfl⟩, ⟨.inl rfl, rfl, rfl, rfl, .inl rfl, rfl, rfl, rfl, .inl rfl, rfl, rfl, rfl, trivial⟩, by simp [rn, hpAt]⟩, by simp [keepIds]⟩
      have hk : k ≤ B.length := hk'
      have w2 : IntKind.i64.wrap ((k : Int) + 1) = ((k + 1 : Nat) : Int) := by rw [wrap_id] <;> omega
      by_cases h : k < B.length
      · have hlt : ((k : Int) < (B.length : Int)) = True := eq_true (by omega)
        have hset := rows_set1 B k h
        have hturn := sf_turn hok h
        simp (maxSteps := 3000000) only [Try.f5, lsgd, e20, ← hys, hB', hA', hT', hm, hlt, hset, hturn, w2, rows_set, row_toI, row_nil, row_head, beq_self_eq_true, g_alive, g_sameBytes, g_sameSg, g_segBytes, g_segFrom, ocOf, g_drawSgf, bytesOf_rows, rowsOf_len, rgsOf_rows, rgRows_len, ↓reduceIte, Bool.false_eq_true, Bool.not_true, Bool.not_false, tYs, evL, implies_true, oMin, x_max, oMax, oCopy, oBin, oUn, oLoadKid, oStoreTree, oField, oExtract, oNil, oSliceQ, oSliceE, x_appendZ, oAppendZ, oSliceEnd, endMode, oLoadRow, takeCells, TS.atRow, TS.ex, treeMode, AV.isOwn, TK.isSl, nilTk, nilsB, oLenQ, oLen, nodupB, treeOf, kidAbs, kidRows, TK.isCell, D.toL, oLoad, oStore, oMake, oIndexAddr, ↓reduceIte, reduceCtorEq, Nat.reduceBEq, Nat.reduceAdd, Nat.reduceMul, Nat.reduceLT, Nat.reduceSub, Nat.reduceLeDiff, Nat.reduceEqDiff, Nat.reduceBneDiff, Int.reduceToNat, decide_eq_true_eq, decide_eq_false_iff_not, beq_iff_eq, Int.toNat_natCast, loopK_normal, loopK_exit, loopK_ret, bne_self_eq_false]
        clear hset
        refine ⟨⟨by omega, by omega, rowsOf_w _⟩, by omega, ⟨h, by omega, h⟩, by omega, h, ⟨_, rfl, by rw [List.length_set]; omega⟩, ?_⟩
        exact ⟨k + 1, [(0, some 0), (1, some 1), (2, some 2)], by omega, by omega, ⟨⟨trivial, trivial, trivial, ⟨rfl, rfl, rfl⟩, ⟨rfl, rfl, rfl⟩, ⟨rfl, rfl, rfl⟩, ⟨rfl, rfl, rfl⟩, ⟨rfl, rfl, rfl⟩, trivial, trivial, ⟨rfl, rfl, rfl⟩, fitT_rep _ _ rfl⟩, ⟨.inl rfl, rfl, rfl, rfl, .inl rfl, rfl, rfl, rfl, .inl rfl, rfl, rfl, rfl, trivial⟩, by simp [rn, hpAt]⟩, by simp [keepIds]⟩
      · have hlt : ((k : Int) < (B.length : Int)) = False := eq_false (by omega)
        simp (maxSteps := 3000000) only [Try.f5, lsgd, e20, ← hys, hB', hA', hT', hm, hlt, hsent, ha, hmore, beq_self_eq_true, g_alive, g_sameBytes, g_sameSg, g_segBytes, g_segFrom, ocOf, g_drawSgf, bytesOf_rows, rowsOf_len, rgsOf_rows, rgRows_len, ↓reduceIte, Bool.false_eq_true, Bool.not_true, Bool.not_false, tYs, evL, implies_true, oMin, x_max, oMax, oCopy, oBin, oUn, oLoadKid, oStoreTree, oField, oExtract, oNil, oSliceQ, oSliceE, x_appendZ, oAppendZ, oSliceEnd, endMode, oLoadRow, takeCells, TS.atRow, TS.ex, treeMode, AV.isOwn, TK.isSl, nilTk, nilsB, oLenQ, oLen, nodupB, treeOf, kidAbs, kidRows, TK.isCell, D.toL, oLoad, oStore, oMake, oIndexAddr, ↓reduceIte, reduceCtorEq, Nat.reduceBEq, Nat.reduceAdd, Nat.reduceMul, Nat.reduceLT, Nat.reduceSub, Nat.reduceLeDiff, Nat.reduceEqDiff, Nat.reduceBneDiff, Int.reduceToNat, decide_eq_true_eq, decide_eq_false_iff_not, beq_iff_eq, Int.toNat_natCast, loopK_normal, loopK_exit, loopK_ret, bne_self_eq_false]
        repeat' first
          | (refine And.intro ?_ ?_; focus (omega; done))
          | (refine And.intro ?_ ?_; focus (exact ⟨xs, rfl⟩))
          | (refine And.intro ?_ ?_; focus (exact ⟨_, rfl, by omega⟩))
          | (refine And.intro ?_ ?_; focus (exact ⟨⟨_, rfl, by omega⟩, _, rfl, by omega⟩))
          | (refine And.intro ?_ ?_; focus (exact ⟨⟨_, rfl, by omega⟩, [], rfl, by simp⟩))
          | (refine And.intro ?_ ?_; focus (exact ⟨⟨_, rfl⟩, _, rfl⟩))
          | (refine And.intro ?_ ?_; focus (exact ⟨by omega, by omega, rowsOf_w _⟩))
          | (refine And.intro ?_ ?_; focus (exact ⟨by omega, by omega, fun r hr => by simp only [List.mem_cons, List.not_mem_nil, or_false] at hr; subst hr; rfl⟩))
          | (refine And.intro ?_ ?_; focus (exact ⟨⟨_, rfl, by omega⟩, _, rfl, by simp only [List.length_append, List.length_cons, List.length_nil]; omega⟩))
          | (refine And.intro ?_ ?_; focus (exact ⟨_, rfl, by simp only [List.length_append, List.length_cons, List.length_nil]; omega⟩))
          | (refine And.intro ?_ ?_; focus (exact ⟨_, rfl⟩))
          | (refine And.intro ?_ ?_; focus (exact ⟨⟨_, rfl, rfl, by omega⟩, _, rfl⟩))
          | (refine And.intro ?_ ?_; focus (exact ⟨⟨_, rfl, rfl, by omega⟩, _, rfl, rfl⟩))
          | (refine And.intro ?_ ?_; focus (kernel_rfl))
        exact ⟨_, [], rfl, ⟨⟨⟨rfl, rfl, rfl⟩, trivial⟩, trivial, by simp [rn, hpAt]⟩⟩
  · cases hg
theorem walk_SegmentFrom (A : Option Addr) (n c : Nat) (xs : List UInt8) (w : World) (h : Rd w w.heap.size A n (bv xs)) (hc : n ≤ c) :
    Calls Try.prog 5 #[.slice A n c] w fun e w' => e = .returned (.bool true) ∧ Below w.heap.size w w' :=
  lawSegmentFrom_ok.walk (vs := [_]) (arel_cons (.l _ _ _ (rep_of_rd h hc)) arel_nil) rfl ⟨xs, rfl⟩
end Go.Proofs.Ytnlhfjdkhkmaeaa
