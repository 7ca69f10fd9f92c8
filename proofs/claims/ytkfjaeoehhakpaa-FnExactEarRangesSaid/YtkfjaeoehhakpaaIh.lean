import Derived.Test.YtkfjaeoehhakpaaIb
import Derived.Test.YtkfjaeoehhakpaaVa
import Derived.Test.YtkfjaeoehhakpaaTq
set_option linter.unusedVariables false
set_option linter.unusedSimpArgs false
namespace Go.Proofs.Ytkfjaeoehhakpaa
open Go.RowKit
set_option linter.unusedSimpArgs false
def erEq (e e' : Er) : Bool := e.p == e'.p && (e.b.toNat : Int) == (e'.b.toNat : Int)
def erEqs : List Er → List Er → Bool
  | [], [] => true
  | x :: t, y :: u => erEq x y && erEqs t u
  | _, _ => false
theorem erEq_iff {e e' : Er} : erEq e e' = true ↔ e = e' := by
  have u8i : ∀ a b : UInt8, ((a.toNat : Int) = (b.toNat : Int)) = (a = b) := fun a b => propext ⟨fun h => UInt8.toNat_inj.1 (by omega), fun h => by rw [h]⟩
  cases e; cases e'
  simp [erEq, and_assoc, u8i]
theorem erEqs_iff : ∀ {l l' : List Er}, erEqs l l' = true ↔ l = l'
  | [], [] => by simp [erEqs]
  | [], _ :: _ => by simp [erEqs]
  | _ :: _, [] => by simp [erEqs]
  | x :: t, y :: u => by rw [erEqs, Bool.and_eq_true, erEq_iff, erEqs_iff, List.cons.injEq]
theorem erEqs_refl (l : List Er) : erEqs l l = true := erEqs_iff.2 rfl
theorem erEqs_len {l l' : List Er} (h : l.length ≠ l'.length) : erEqs l l' = false := by
  rw [Bool.eq_false_iff]
  intro hn
  rw [erEqs_iff.1 hn] at h
  exact h rfl
def erMk (c : Int) (i : Nat) : Er := ⟨c + 2 * (i : Int), toU8 (c + 2 * (i : Int) + 1)⟩
def erMks (c : Int) (n : Nat) : List Er := (List.range n).map (erMk c)
theorem erMks_len (c : Int) (n : Nat) : (erMks c n).length = n := by simp [erMks]
theorem erMks_set (c : Int) (l : List Er) (k : Nat) (h : k < l.length) : (erMks c k ++ l.drop k).set k (erMk c k) = erMks c (k + 1) ++ l.drop (k + 1) := by
  have e : (erMks c k).length = k := erMks_len c k
  rw [List.set_append_right _ _ (by omega), e, Nat.sub_self, List.drop_eq_getElem_cons h, List.set_cons_zero, erMks, erMks, List.range_succ, List.map_append]
  simp
theorem erRows_set (l : List Er) (k : Nat) (e : Er) : (erRows l).set k [D.v (.int .i64 e.p), D.v (.int .u8 (e.b.toNat : Int))] = erRows (l.set k e) := by
  rw [erRows, erRows, List.map_set]; rfl
def g_erTo : PC := fun args => match args with
  | [.agg [.v (.int .i64 p), .v (.int .u8 b)]] => some (True, .agg [.v (.int .i64 p), .v (.int .u8 b)], [])
  | _ => none
def g_erToS : PC := fun args => match args with
  | [.l _ rows] => some (∃ l, rows = erRows l ∧ l.length ≤ 1048577, .own 0, [.sl 51 2 rows])
  | _ => none
def g_erEq : PC := fun args => match args with
  | [.agg [.v (.int .i64 p), .v (.int .u8 b)], .agg [.v (.int .i64 p'), .v (.int .u8 b')]] => some (True, .v (.bool (p == p' && b == b')), [])
  | _ => none
def g_erEqS : PC := fun args => match args with
  | [.l _ rows, .l _ rows'] => some ((∃ l, rows = erRows l ∧ l.length ≤ 1048577) ∧ ∃ l, rows' = erRows l ∧ l.length ≤ 1048577, .v (.bool (erEqs (ersOf rows) (ersOf rows'))), [])
  | _ => none
def g_erMarkS : OC := fun args B0 => match args, B0 with
  | [.own r, .v (.int .i64 c)], [.sl T sz rows] => some (r = 0 ∧ T = 51 ∧ sz = 2 ∧ (∃ l, rows = erRows l ∧ l.length ≤ 1048577) ∧ 0 ≤ c ∧ c ≤ 1099511627776, .v (.int .i64 (c + 2 * (rows.length : Int))), [.sl T sz (erRows (erMks c rows.length))], [])
  | _, _ => none
def g_erHeldS : PC := fun args => match args with
  | [.l _ rows, .v (.int .i64 c)] => some ((∃ m, rows = erRows (erMks c m) ∧ m ≤ 1048577) ∧ 0 ≤ c ∧ c ≤ 1099511627776, .v (.int .i64 (c + 2 * (rows.length : Int))), [])
  | _ => none
set_option maxRecDepth 100000 in
theorem toEarly_ok : PureOk Try.prog 47 g_erTo := by
  refine PureOk.of_vc (G := []) (by simp) mixed Try.func47 (by kernel_rfl) rfl ?_
  intro args cnd r bs hg hc
  unfold g_erTo at hg
  split at hg
  · rename_i p b
    cases hg
    refine ⟨⟨rfl, by simp, by simp [AV.ids, AV.ids.idsL]⟩, _, rfl, fun w vs h => h, ?_⟩
    simp (maxSteps := 3000000) only [Try.f47, tYs, evL, implies_true, oMin, x_min3, oMin3, x_max, oMax, oCopy, oBin, oUn, oLoadKid, oStoreTree, oField, oExtract, oNil, oSliceQ, oSliceE, x_appendZ, oAppendZ, oSliceEnd, endMode, oLoadRow, takeCells, TS.atRow, TS.ex, treeMode, AV.isOwn, TK.isSl, nilTk, nilsB, oLenQ, oLen, nodupB, treeOf, kidAbs, kidRows, TK.isCell, D.toL, oLoad, oStore, oMake, oIndexAddr, ↓reduceIte, reduceCtorEq, Nat.reduceBEq, Nat.reduceAdd, Nat.reduceMul, Nat.reduceLT, Nat.reduceSub, Nat.reduceLeDiff, Nat.reduceEqDiff, Nat.reduceBneDiff, Int.reduceToNat, decide_eq_true_eq, decide_eq_false_iff_not, beq_iff_eq, Int.toNat_natCast]
    exact ⟨_, [], rfl, ⟨⟨⟨rfl, rfl, rfl⟩, trivial⟩, trivial, by simp [rn, hpAt]⟩⟩
  · cases hg
def ertos : List (FuncId × Abs) := [(47, pureAbs g_erTo)]
theorem ertos_ok : ∀ p ∈ ertos, CallOk Try.prog p.1 p.2 := by
  intro p hp
  simp only [ertos, List.mem_cons, List.not_mem_nil, or_false] at hp
  rcases hp with rfl
  · exact toEarly_ok.call
theorem erfill (l : List Er) (k : Nat) (h : k < l.length) (z : List D) : ((erRows l).take k ++ List.replicate (l.length - k) z).set k [D.v (.int .i64 l[k].p), D.v (.int .u8 (l[k].b.toNat : Int))] = (erRows l).take (k + 1) ++ List.replicate (l.length - (k + 1)) z := by
  have hl : ((erRows l).take k).length = k := by rw [List.length_take, erRows_len]; omega
  have hm : l.length - k = (l.length - (k + 1)) + 1 := by omega
  have hx : (erRows l)[k]? = some [D.v (.int .i64 l[k].p), D.v (.int .u8 (l[k].b.toNat : Int))] := by simp [erRows, h, erRow]
  rw [hm, List.replicate_succ, List.set_append_right _ _ (by omega), hl, Nat.sub_self, List.set_cons_zero, List.take_add_one, hx]
  simp
set_option maxHeartbeats 1000000 in
set_option maxRecDepth 100000 in
theorem toEarlyS_ok : PureOk Try.prog 33 g_erToS := by
  refine PureOk.of_vc (G := ertos) ertos_ok mixed Try.func33 (by kernel_rfl) rfl ?_
  intro args cnd r bs hg hc
  unfold g_erToS at hg
  split at hg
  · rename_i sz rows
    cases hg
    obtain ⟨l, rfl, hl⟩ := hc
    refine ⟨⟨rfl, by simpa [flatB] using erRows_flat _, by simp [AV.ids, AV.ids.idsL]⟩, [.l 2 (erRows l)], rfl, fun w vs h => CvL.ok (.cons (.l _ _ _ (erRows_w l)) .nil) h, ?_⟩
    simp (maxSteps := 3000000) only [Try.f33, ertos, erRows_len, tYs, evL, implies_true, oMin, x_min3, oMin3, x_max, oMax, oCopy, oBin, oUn, oLoadKid, oStoreTree, oField, oExtract, oNil, oSliceQ, oSliceE, x_appendZ, oAppendZ, oSliceEnd, endMode, oLoadRow, takeCells, TS.atRow, TS.ex, treeMode, AV.isOwn, TK.isSl, nilTk, nilsB, oLenQ, oLen, nodupB, treeOf, kidAbs, kidRows, TK.isCell, D.toL, oLoad, oStore, oMake, oIndexAddr, ↓reduceIte, reduceCtorEq, Nat.reduceBEq, Nat.reduceAdd, Nat.reduceMul, Nat.reduceLT, Nat.reduceSub, Nat.reduceLeDiff, Nat.reduceEqDiff, Nat.reduceBneDiff, Int.reduceToNat, decide_eq_true_eq, decide_eq_false_iff_not, beq_iff_eq, Int.toNat_natCast]
    repeat' first
      | refine And.intro (by omega) ?_
      | refine And.intro ⟨by omega, by omega, by omega, by omega⟩ ?_
      | refine And.intro (by kernel_rfl) ?_
    refine e_loop _ _ _ _ _ _ _ _ (fun k : Nat => [.l 2 (erRows l), .any, .any, .own 0, .v (.int .i64 (k : Int))] ++ List.replicate (Try.f33.ntmps - 5) .any) (fun k => [(0, .sl 51 2 ((erRows l).take k ++ List.replicate (l.length - k) [D.v (.int .i64 0), D.v (.int .u8 0)]))]) (fun k => k ≤ l.length) (fun k => l.length - k) 1 (fun k => by simp) ?_ fun k hk' => ?_
    · exact ⟨0, [(0, some _)], Nat.zero_le _, ⟨⟨⟨rfl, rfl, rfl⟩, trivial, trivial, ⟨rfl, rfl, rfl⟩, ⟨rfl, rfl, rfl⟩, fitT_rep _ _ rfl⟩, ⟨.inl rfl, rfl, rfl, rfl, trivial⟩, by simp [rn, hpAt]⟩, by simp [keepIds]⟩
    have w2 : IntKind.i64.wrap ((k : Int) + 1) = ((k + 1 : Nat) : Int) := by rw [wrap_id] <;> omega
    by_cases hk : k < l.length
    · have hrow := erRows_get l k hk
      have hlt : ((k : Int) < (l.length : Int)) = True := eq_true (by omega)
      have h0 : (0 ≤ (k : Int)) = True := eq_true (by omega)
      have hln : ((erRows l).take k ++ List.replicate (l.length - k) [D.v (.int .i64 0), D.v (.int .u8 0)]).length = l.length := by rw [List.length_append, List.length_take, erRows_len, List.length_replicate]; omega
      have hl1 : (((erRows l).take k ++ List.replicate (l.length - k) [D.v (.int .i64 0), D.v (.int .u8 0)]).getD k []).length = 2 := by
        rw [List.getD, List.getElem?_append_right (by rw [List.length_take, erRows_len]; omega), List.getElem?_replicate, if_pos (by rw [List.length_take, erRows_len]; omega)]
        rfl
      have hdr : List.drop 2 (((erRows l).take k ++ List.replicate (l.length - k) [D.v (.int .i64 0), D.v (.int .u8 0)]).getD k []) = [] := List.drop_eq_nil_of_le (Nat.le_of_eq hl1)
      have hfl := erfill l k hk [D.v (.int .i64 0), D.v (.int .u8 0)]
      simp (maxSteps := 3000000) only [Try.f33, ertos, g_erTo, erRows_len, ersOf_rows, hrow, hlt, h0, hln, D.toI, D.toL, tYs, evL, implies_true, oMin, x_min3, oMin3, x_max, oMax, oCopy, oBin, oUn, oLoadKid, oStoreTree, oField, oExtract, oNil, oSliceQ, oSliceE, x_appendZ, oAppendZ, oSliceEnd, endMode, oLoadRow, takeCells, TS.atRow, TS.ex, treeMode, AV.isOwn, TK.isSl, nilTk, nilsB, oLenQ, oLen, nodupB, treeOf, kidAbs, kidRows, TK.isCell, D.toL, oLoad, oStore, oMake, oIndexAddr, ↓reduceIte, reduceCtorEq, Nat.reduceBEq, Nat.reduceAdd, Nat.reduceMul, Nat.reduceLT, Nat.reduceSub, Nat.reduceLeDiff, Nat.reduceEqDiff, Nat.reduceBneDiff, Int.reduceToNat, decide_eq_true_eq, decide_eq_false_iff_not, beq_iff_eq, Int.toNat_natCast, loopK_normal, loopK_exit, loopK_ret, w2]
      repeat' first
        | refine And.intro (by omega) ?_
        | refine And.intro (by kernel_rfl) ?_
      rw [hdr, hfl]
      exact ⟨k + 1, [(0, some _)], by omega, by omega, ⟨⟨⟨rfl, rfl, rfl⟩, trivial, trivial, ⟨rfl, rfl, rfl⟩, ⟨rfl, rfl, rfl⟩, fitT_rep _ _ rfl⟩, ⟨.inl rfl, rfl, rfl, rfl, trivial⟩, by simp [rn, hpAt]⟩, by simp [keepIds]⟩
    · have hlt : ((k : Int) < (l.length : Int)) = False := eq_false (by omega)
      simp (maxSteps := 3000000) only [Try.f33, ertos, erRows_len, ersOf_rows, hlt, D.toI, D.toL, tYs, evL, implies_true, oMin, x_min3, oMin3, x_max, oMax, oCopy, oBin, oUn, oLoadKid, oStoreTree, oField, oExtract, oNil, oSliceQ, oSliceE, x_appendZ, oAppendZ, oSliceEnd, endMode, oLoadRow, takeCells, TS.atRow, TS.ex, treeMode, AV.isOwn, TK.isSl, nilTk, nilsB, oLenQ, oLen, nodupB, treeOf, kidAbs, kidRows, TK.isCell, D.toL, oLoad, oStore, oMake, oIndexAddr, ↓reduceIte, reduceCtorEq, Nat.reduceBEq, Nat.reduceAdd, Nat.reduceMul, Nat.reduceLT, Nat.reduceSub, Nat.reduceLeDiff, Nat.reduceEqDiff, Nat.reduceBneDiff, Int.reduceToNat, decide_eq_true_eq, decide_eq_false_iff_not, beq_iff_eq, Int.toNat_natCast, loopK_normal, loopK_exit, loopK_ret, w2]
      obtain rfl : k = l.length := by omega
      have e : (erRows l).take l.length ++ List.replicate (l.length - l.length) [D.v (.int .i64 0), D.v (.int .u8 0)] = erRows l := by
        rw [List.take_of_length_le (by rw [erRows_len]; omega), Nat.sub_self]; simp
      rw [e]
      exact ⟨_, [(0, some _)], rfl, ⟨⟨⟨rfl, rfl, rfl⟩, trivial⟩, ⟨.inl rfl, rfl, rfl, rfl, trivial⟩, by simp [rn, hpAt]⟩⟩
  · cases hg
set_option maxRecDepth 100000 in
theorem eqEarly_ok : PureOk Try.prog 48 g_erEq := by
  refine PureOk.of_vc (G := []) (by simp) mixed Try.func48 (by kernel_rfl) rfl ?_
  intro args cnd r bs hg hc
  unfold g_erEq at hg
  split at hg
  · rename_i p b p' b'
    cases hg
    refine ⟨⟨rfl, by simp, by simp [AV.ids, AV.ids.idsL]⟩, _, rfl, fun w vs h => h, ?_⟩
    simp (maxSteps := 3000000) only [Try.f48, tYs, evL, implies_true, oMin, x_min3, oMin3, x_max, oMax, oCopy, oBin, oUn, oLoadKid, oStoreTree, oField, oExtract, oNil, oSliceQ, oSliceE, x_appendZ, oAppendZ, oSliceEnd, endMode, oLoadRow, takeCells, TS.atRow, TS.ex, treeMode, AV.isOwn, TK.isSl, nilTk, nilsB, oLenQ, oLen, nodupB, treeOf, kidAbs, kidRows, TK.isCell, D.toL, oLoad, oStore, oMake, oIndexAddr, ↓reduceIte, reduceCtorEq, Nat.reduceBEq, Nat.reduceAdd, Nat.reduceMul, Nat.reduceLT, Nat.reduceSub, Nat.reduceLeDiff, Nat.reduceEqDiff, Nat.reduceBneDiff, Int.reduceToNat, decide_eq_true_eq, decide_eq_false_iff_not, beq_iff_eq, Int.toNat_natCast]
    repeat' split
    all_goals (refine ⟨_, [], rfl, ⟨⟨⟨?_, rfl, rfl⟩, trivial⟩, by simp [hpAt, fitH], by simp [hpAt]⟩⟩; refine congrArg (fun b => AV.v (Value.bool b)) ?_; first | rfl | (rw [Bool.eq_iff_iff]; simp only [decide_eq_true_eq, inZ, Bool.and_eq_true, Bool.or_eq_true, bne_iff_ne, Bool.false_eq_true, beq_eq_false_iff_ne, beq_iff_eq, Bool.and_eq_true, ne_eq, decide_eq_false_iff_not, Bool.not_eq_eq_eq_not, Bool.not_true, Bool.not_false, false_iff, iff_false, true_iff, iff_true] at *; omega))
  · cases hg
def ereqs : List (FuncId × Abs) := [(48, pureAbs g_erEq)]
theorem ereqs_ok : ∀ p ∈ ereqs, CallOk Try.prog p.1 p.2 := by
  intro p hp
  simp only [ereqs, List.mem_cons, List.not_mem_nil, or_false] at hp
  rcases hp with rfl
  · exact eqEarly_ok.call
set_option maxHeartbeats 1000000 in
set_option maxRecDepth 100000 in
theorem eqEarlyS_ok : PureOk Try.prog 37 g_erEqS := by
  refine PureOk.of_vc (G := ereqs) ereqs_ok mixed Try.func37 (by kernel_rfl) rfl ?_
  intro args cnd r bs hg hc
  unfold g_erEqS at hg
  split at hg
  · rename_i sz rows sz' rows'
    cases hg
    obtain ⟨⟨l, rfl, hl⟩, l', rfl, hl'⟩ := hc
    rw [ersOf_rows, ersOf_rows]
    refine ⟨⟨rfl, by simp, by simp [AV.ids, AV.ids.idsL]⟩, [.l 2 (erRows l), .l 2 (erRows l')], rfl, fun w vs h => CvL.ok (.cons (.l _ _ _ (erRows_w l)) (.cons (.l _ _ _ (erRows_w l')) .nil)) h, ?_⟩
    simp (maxSteps := 3000000) only [Try.f37, ereqs, erRows_len, tYs, evL, implies_true, oMin, x_min3, oMin3, x_max, oMax, oCopy, oBin, oUn, oLoadKid, oStoreTree, oField, oExtract, oNil, oSliceQ, oSliceE, x_appendZ, oAppendZ, oSliceEnd, endMode, oLoadRow, takeCells, TS.atRow, TS.ex, treeMode, AV.isOwn, TK.isSl, nilTk, nilsB, oLenQ, oLen, nodupB, treeOf, kidAbs, kidRows, TK.isCell, D.toL, oLoad, oStore, oMake, oIndexAddr, ↓reduceIte, reduceCtorEq, Nat.reduceBEq, Nat.reduceAdd, Nat.reduceMul, Nat.reduceLT, Nat.reduceSub, Nat.reduceLeDiff, Nat.reduceEqDiff, Nat.reduceBneDiff, Int.reduceToNat, decide_eq_true_eq, decide_eq_false_iff_not, beq_iff_eq, Int.toNat_natCast]
    by_cases hne : l.length = l'.length
    · first | rw [if_neg (by simp [hne])] | rw [if_pos (by simp [hne])]
      refine e_loop _ _ _ _ _ _ _ _ (fun k : Nat => [.l 2 (erRows l), .l 2 (erRows l'), .any, .any, .any, .v (.int .i64 (k : Int))] ++ List.replicate (Try.f37.ntmps - 6) .any) (fun k => []) (fun k => k ≤ l.length ∧ erEqs l l' = erEqs (l.drop k) (l'.drop k)) (fun k => l.length - k) 0 (fun k => by simp) ?_ fun k hk' => ?_
      · exact ⟨0, [], ⟨Nat.zero_le _, rfl⟩, ⟨⟨⟨rfl, rfl, rfl⟩, ⟨rfl, rfl, rfl⟩, trivial, trivial, trivial, ⟨rfl, rfl, rfl⟩, fitT_rep _ _ rfl⟩, trivial, by simp [rn, hpAt]⟩, by simp [keepIds]⟩
      obtain ⟨hk1, hinv⟩ := hk'
      have w2 : IntKind.i64.wrap ((k : Int) + 1) = ((k + 1 : Nat) : Int) := by rw [wrap_id] <;> omega
      by_cases hk : k < l.length
      · have hrow := erRows_get l k hk
        have hlt : ((k : Int) < (l.length : Int)) = True := eq_true (by omega)
        have h0 : (0 ≤ (k : Int)) = True := eq_true (by omega)
        have hrow' := erRows_get l' k (by omega)
        have hlt' : ((k : Int) < (l'.length : Int)) = True := eq_true (by omega)
        rw [List.drop_eq_getElem_cons hk, List.drop_eq_getElem_cons (show k < l'.length by omega), erEqs] at hinv
        cases he : erEq l[k] l'[k] with
        | true =>
          rw [he, Bool.true_and] at hinv
          have he' : (l[k].p == l'[k].p && (l[k].b.toNat : Int) == (l'[k].b.toNat : Int)) = true := he
          simp (maxSteps := 3000000) only [Try.f37, ereqs, g_erEq, erRows_len, ersOf_rows, hrow, hrow', hlt, hlt', h0, he, he', D.toI, D.toL, tYs, evL, implies_true, oMin, x_min3, oMin3, x_max, oMax, oCopy, oBin, oUn, oLoadKid, oStoreTree, oField, oExtract, oNil, oSliceQ, oSliceE, x_appendZ, oAppendZ, oSliceEnd, endMode, oLoadRow, takeCells, TS.atRow, TS.ex, treeMode, AV.isOwn, TK.isSl, nilTk, nilsB, oLenQ, oLen, nodupB, treeOf, kidAbs, kidRows, TK.isCell, D.toL, oLoad, oStore, oMake, oIndexAddr, ↓reduceIte, reduceCtorEq, Nat.reduceBEq, Nat.reduceAdd, Nat.reduceMul, Nat.reduceLT, Nat.reduceSub, Nat.reduceLeDiff, Nat.reduceEqDiff, Nat.reduceBneDiff, Int.reduceToNat, decide_eq_true_eq, decide_eq_false_iff_not, beq_iff_eq, Int.toNat_natCast, loopK_normal, loopK_exit, loopK_ret, w2]
          exact ⟨by kernel_rfl, k + 1, [], ⟨by omega, hinv⟩, by omega, ⟨⟨⟨rfl, rfl, rfl⟩, ⟨rfl, rfl, rfl⟩, trivial, trivial, trivial, ⟨rfl, rfl, rfl⟩, fitT_rep _ _ rfl⟩, trivial, by simp [rn, hpAt]⟩, by simp [keepIds]⟩
        | false =>
          rw [he, Bool.false_and] at hinv
          have he' : (l[k].p == l'[k].p && (l[k].b.toNat : Int) == (l'[k].b.toNat : Int)) = false := he
          simp (maxSteps := 3000000) only [Try.f37, ereqs, g_erEq, erRows_len, ersOf_rows, hrow, hrow', hlt, hlt', h0, he, he', D.toI, D.toL, tYs, evL, implies_true, oMin, x_min3, oMin3, x_max, oMax, oCopy, oBin, oUn, oLoadKid, oStoreTree, oField, oExtract, oNil, oSliceQ, oSliceE, x_appendZ, oAppendZ, oSliceEnd, endMode, oLoadRow, takeCells, TS.atRow, TS.ex, treeMode, AV.isOwn, TK.isSl, nilTk, nilsB, oLenQ, oLen, nodupB, treeOf, kidAbs, kidRows, TK.isCell, D.toL, oLoad, oStore, oMake, oIndexAddr, ↓reduceIte, reduceCtorEq, Nat.reduceBEq, Nat.reduceAdd, Nat.reduceMul, Nat.reduceLT, Nat.reduceSub, Nat.reduceLeDiff, Nat.reduceEqDiff, Nat.reduceBneDiff, Int.reduceToNat, decide_eq_true_eq, decide_eq_false_iff_not, beq_iff_eq, Int.toNat_natCast, loopK_normal, loopK_exit, loopK_ret, w2]
          rw [hinv]
          refine ⟨by kernel_rfl, ?_⟩
          exact ⟨_, [], rfl, ⟨⟨⟨rfl, rfl, rfl⟩, trivial⟩, trivial, by simp [rn, hpAt]⟩⟩
      · have hlt : ((k : Int) < (l.length : Int)) = False := eq_false (by omega)
        simp (maxSteps := 3000000) only [Try.f37, ereqs, erRows_len, ersOf_rows, hlt, D.toI, D.toL, tYs, evL, implies_true, oMin, x_min3, oMin3, x_max, oMax, oCopy, oBin, oUn, oLoadKid, oStoreTree, oField, oExtract, oNil, oSliceQ, oSliceE, x_appendZ, oAppendZ, oSliceEnd, endMode, oLoadRow, takeCells, TS.atRow, TS.ex, treeMode, AV.isOwn, TK.isSl, nilTk, nilsB, oLenQ, oLen, nodupB, treeOf, kidAbs, kidRows, TK.isCell, D.toL, oLoad, oStore, oMake, oIndexAddr, ↓reduceIte, reduceCtorEq, Nat.reduceBEq, Nat.reduceAdd, Nat.reduceMul, Nat.reduceLT, Nat.reduceSub, Nat.reduceLeDiff, Nat.reduceEqDiff, Nat.reduceBneDiff, Int.reduceToNat, decide_eq_true_eq, decide_eq_false_iff_not, beq_iff_eq, Int.toNat_natCast, loopK_normal, loopK_exit, loopK_ret, w2]
        rw [List.drop_eq_nil_of_le (by omega), List.drop_eq_nil_of_le (by omega), erEqs] at hinv
        rw [hinv]
        exact ⟨_, [], rfl, ⟨⟨⟨rfl, rfl, rfl⟩, trivial⟩, trivial, by simp [rn, hpAt]⟩⟩
    · first | rw [if_pos (by simp; omega)] | rw [if_neg (by simp; omega)]
      rw [erEqs_len hne]
      exact ⟨_, [], rfl, ⟨⟨⟨rfl, rfl, rfl⟩, trivial⟩, trivial, by simp [rn, hpAt]⟩⟩
  · cases hg
set_option maxRecDepth 100000 in
theorem szEarlyS_ok : PureOk Try.prog 31 g_szS := by
  refine PureOk.of_vc (G := []) (by simp) mixed Try.func31 (by kernel_rfl) rfl ?_
  intro args cnd r bs hg hc
  unfold g_szS at hg
  split at hg
  · rename_i sz rows l
    cases hg
    obtain ⟨hl, hn, s, hs⟩ := hc
    refine ⟨⟨rfl, by simp, by simp [AV.ids, AV.ids.idsL]⟩, [.l sz rows, .v (.int .i64 l)], rfl, fun w vs h => h, ?_⟩
    simp (maxSteps := 3000000) only [Try.f31, tYs, evL, implies_true, oMin, x_min3, oMin3, x_max, oMax, oCopy, oBin, oUn, oLoadKid, oStoreTree, oField, oExtract, oNil, oSliceQ, oSliceE, x_appendZ, oAppendZ, oSliceEnd, endMode, oLoadRow, takeCells, TS.atRow, TS.ex, treeMode, AV.isOwn, TK.isSl, nilTk, nilsB, oLenQ, oLen, nodupB, treeOf, kidAbs, kidRows, TK.isCell, D.toL, oLoad, oStore, oMake, oIndexAddr, ↓reduceIte, reduceCtorEq, Nat.reduceBEq, Nat.reduceAdd, Nat.reduceMul, Nat.reduceLT, Nat.reduceSub, Nat.reduceLeDiff, Nat.reduceEqDiff, Nat.reduceBneDiff, Int.reduceToNat, decide_eq_true_eq, decide_eq_false_iff_not, beq_iff_eq, Int.toNat_natCast]
    rw [szLeft_eq hl hn]
    split
    · exact ⟨_, [], rfl, ⟨⟨⟨rfl, rfl, rfl⟩, trivial⟩, trivial, by simp [rn, hpAt]⟩⟩
    · exact ⟨_, [], rfl, ⟨⟨⟨rfl, rfl, rfl⟩, trivial⟩, trivial, by simp [rn, hpAt]⟩⟩
  · cases hg
set_option maxHeartbeats 2000000 in
set_option maxRecDepth 100000 in
theorem markEarlyS_ok : OwnOk Try.prog 43 g_erMarkS := by
  refine OwnOk.of_vc (G := []) (by simp) mixed Try.func43 (by kernel_rfl) rfl ?_
  intro args B0 cnd r B1 bs hg hc hlive
  unfold g_erMarkS at hg
  split at hg
  · rename_i r c T sz rows
    cases hg
    obtain ⟨rfl, rfl, rfl, ⟨l, rfl, hl⟩, hc0, hc1⟩ := hc
    rw [erRows_len]
    refine ⟨⟨by simp [likeBs, likeB, erRows_len, erMks_len], by simp [Blk.liveB, blkIds, AV.ids.idsL, AV.ids], by simp [AV.ids]⟩, _, rfl, fun w Z s vs h => h, ?_⟩
    clear hlive
    simp (maxSteps := 3000000) only [Try.f43, tYs, evL, implies_true, oMin, x_min3, oMin3, x_max, oMax, oCopy, oBin, oUn, oLoadKid, oStoreTree, oField, oExtract, oNil, oSliceQ, oSliceE, x_appendZ, oAppendZ, oSliceEnd, endMode, oLoadRow, takeCells, TS.atRow, TS.ex, treeMode, AV.isOwn, TK.isSl, nilTk, nilsB, oLenQ, oLen, nodupB, treeOf, kidAbs, kidRows, TK.isCell, D.toL, oLoad, oStore, oMake, oIndexAddr, ↓reduceIte, reduceCtorEq, Nat.reduceBEq, Nat.reduceAdd, Nat.reduceMul, Nat.reduceLT, Nat.reduceSub, Nat.reduceLeDiff, Nat.reduceEqDiff, Nat.reduceBneDiff, Int.reduceToNat, decide_eq_true_eq, decide_eq_false_iff_not, beq_iff_eq, Int.toNat_natCast]
    refine e_loop _ _ _ _ _ _ _ _ (fun k : Nat => [.own 0, .v (.int .i64 (c + 2 * (k : Int))), .any, .any, .any, .v (.int .i64 (k : Int))] ++ List.replicate (Try.f43.ntmps - 6) .any) (fun k => [(0, .sl 51 2 (erRows (erMks c k ++ l.drop k)))]) (fun k => k ≤ l.length) (fun k => l.length - k) 1 (fun k => by simp) ?_ fun k hk' => ?_
    · exact ⟨0, [(0, some 0)], Nat.zero_le _, ⟨⟨⟨rfl, rfl, rfl⟩, ⟨congrArg (fun z => AV.v (Value.int .i64 z)) (by omega), rfl, rfl⟩, trivial, trivial, trivial, ⟨rfl, rfl, rfl⟩, fitT_rep _ _ rfl⟩, ⟨.inl rfl, rfl, rfl, rfl, trivial⟩, by simp [rn, hpAt]⟩, by simp [keepIds, rn]⟩
    have hsl : (erRows (erMks c k ++ l.drop k)).length = l.length := by rw [erRows_len, List.length_append, erMks_len, List.length_drop]; omega
    have w2 : IntKind.i64.wrap ((k : Int) + 1) = ((k + 1 : Nat) : Int) := by rw [wrap_id] <;> omega
    by_cases hk : k < l.length
    · have hrow := erRows_get l k hk
      have hlt : ((k : Int) < (l.length : Int)) = True := eq_true (by omega)
      have h0 : (0 ≤ (k : Int)) = True := eq_true (by omega)
      have u0 : IntKind.i64.wrap (c + 2 * (k : Int) + 1) = c + 2 * (k : Int) + 1 := by rw [wrap_id] <;> omega
      have u1 : IntKind.i64.wrap (c + 2 * (k : Int) + 1 + 1) = c + 2 * ((k + 1 : Nat) : Int) := by rw [wrap_id] <;> omega
      have v1 : IntKind.u8.wrap (c + 2 * (k : Int) + 1) = ((toU8 (c + 2 * (k : Int) + 1)).toNat : Int) := (toU8_val _).symm
      have hrw : (erRows (erMks c k ++ l.drop k)).getD k [] = [D.v (.int .i64 l[k].p), D.v (.int .u8 (l[k].b.toNat : Int))] := by
        rw [List.getD_eq_getElem?_getD, erRows, List.getElem?_map, List.getElem?_append_right (by rw [erMks_len]; omega), erMks_len, Nat.sub_self, List.getElem?_drop, Nat.add_zero, List.getElem?_eq_getElem hk]; rfl
      have hset : ∀ r : List D, ((erRows (erMks c k ++ l.drop k)).set k r).getD k [] = r := fun r => by
        rw [List.getD_eq_getElem?_getD, List.getElem?_set_self (by rw [hsl]; exact hk)]; rfl
      have hfin : (erRows (erMks c k ++ l.drop k)).set k [D.v (.int .i64 (erMk c k).p), D.v (.int .u8 ((erMk c k).b.toNat : Int))] = erRows (erMks c (k + 1) ++ l.drop (k + 1)) := by rw [erRows_set, erMks_set c l k hk]
      simp only [erMk] at hfin
      simp (maxSteps := 3000000) only [Try.f43, hsl, hrw, hset, hlt, h0, List.set_set, List.length_set, u0, u1, v1, tYs, evL, implies_true, oMin, x_min3, oMin3, x_max, oMax, oCopy, oBin, oUn, oLoadKid, oStoreTree, oField, oExtract, oNil, oSliceQ, oSliceE, x_appendZ, oAppendZ, oSliceEnd, endMode, oLoadRow, takeCells, TS.atRow, TS.ex, treeMode, AV.isOwn, TK.isSl, nilTk, nilsB, oLenQ, oLen, nodupB, treeOf, kidAbs, kidRows, TK.isCell, D.toL, oLoad, oStore, oMake, oIndexAddr, ↓reduceIte, reduceCtorEq, Nat.reduceBEq, Nat.reduceAdd, Nat.reduceMul, Nat.reduceLT, Nat.reduceSub, Nat.reduceLeDiff, Nat.reduceEqDiff, Nat.reduceBneDiff, Int.reduceToNat, decide_eq_true_eq, decide_eq_false_iff_not, beq_iff_eq, Int.toNat_natCast, loopK_normal, loopK_exit, loopK_ret, w2]
      repeat' first
        | refine And.intro (by omega) ?_
        | refine And.intro (by kernel_rfl) ?_
      rw [hfin]
      exact ⟨k + 1, [(0, some _)], by omega, by omega, ⟨⟨⟨rfl, rfl, rfl⟩, ⟨rfl, rfl, rfl⟩, trivial, trivial, trivial, ⟨rfl, rfl, rfl⟩, fitT_rep _ _ rfl⟩, ⟨.inl rfl, rfl, rfl, rfl, trivial⟩, by simp [rn, hpAt]⟩, by simp [keepIds, rn]⟩
    · have hlt : ((k : Int) < (l.length : Int)) = False := eq_false (by omega)
      simp (maxSteps := 3000000) only [Try.f43, hsl, hlt, tYs, evL, implies_true, oMin, x_min3, oMin3, x_max, oMax, oCopy, oBin, oUn, oLoadKid, oStoreTree, oField, oExtract, oNil, oSliceQ, oSliceE, x_appendZ, oAppendZ, oSliceEnd, endMode, oLoadRow, takeCells, TS.atRow, TS.ex, treeMode, AV.isOwn, TK.isSl, nilTk, nilsB, oLenQ, oLen, nodupB, treeOf, kidAbs, kidRows, TK.isCell, D.toL, oLoad, oStore, oMake, oIndexAddr, ↓reduceIte, reduceCtorEq, Nat.reduceBEq, Nat.reduceAdd, Nat.reduceMul, Nat.reduceLT, Nat.reduceSub, Nat.reduceLeDiff, Nat.reduceEqDiff, Nat.reduceBneDiff, Int.reduceToNat, decide_eq_true_eq, decide_eq_false_iff_not, beq_iff_eq, Int.toNat_natCast, loopK_normal, loopK_exit, loopK_ret, w2]
      obtain rfl : k = l.length := by omega
      rw [List.drop_length, List.append_nil]
      exact ⟨[(0, some 0)], ⟨⟨⟨rfl, rfl, rfl⟩, trivial⟩, ⟨.inl rfl, rfl, rfl, rfl, trivial⟩, by simp [rn, hpAt]⟩, by simp [keepIds, rn]⟩
  · cases hg
set_option maxHeartbeats 1000000 in
set_option maxRecDepth 100000 in
theorem heldEarlyS_ok : PureOk Try.prog 44 g_erHeldS := by
  refine PureOk.of_vc (G := []) (by simp) mixed Try.func44 (by kernel_rfl) rfl ?_
  intro args cnd r bs hg hc
  unfold g_erHeldS at hg
  split at hg
  · rename_i sz rows c
    cases hg
    obtain ⟨⟨m, rfl, hl⟩, hc0, hc1⟩ := hc
    rw [erRows_len, erMks_len]
    refine ⟨⟨rfl, by simp, by simp [AV.ids, AV.ids.idsL]⟩, [.l 2 (erRows (erMks c m)), .v (.int .i64 c)], rfl, fun w vs h => CvL.ok (.cons (.l _ _ _ (erRows_w _)) (.cons (.refl _) .nil)) h, ?_⟩
    simp (maxSteps := 3000000) only [Try.f44, erRows_len, erMks_len, tYs, evL, implies_true, oMin, x_min3, oMin3, x_max, oMax, oCopy, oBin, oUn, oLoadKid, oStoreTree, oField, oExtract, oNil, oSliceQ, oSliceE, x_appendZ, oAppendZ, oSliceEnd, endMode, oLoadRow, takeCells, TS.atRow, TS.ex, treeMode, AV.isOwn, TK.isSl, nilTk, nilsB, oLenQ, oLen, nodupB, treeOf, kidAbs, kidRows, TK.isCell, D.toL, oLoad, oStore, oMake, oIndexAddr, ↓reduceIte, reduceCtorEq, Nat.reduceBEq, Nat.reduceAdd, Nat.reduceMul, Nat.reduceLT, Nat.reduceSub, Nat.reduceLeDiff, Nat.reduceEqDiff, Nat.reduceBneDiff, Int.reduceToNat, decide_eq_true_eq, decide_eq_false_iff_not, beq_iff_eq, Int.toNat_natCast]
    refine e_loop _ _ _ _ _ _ _ _ (fun k : Nat => [.l 2 (erRows (erMks c m)), .v (.int .i64 (c + 2 * (k : Int))), .any, .any, .any, .v (.int .i64 (k : Int))] ++ List.replicate (Try.f44.ntmps - 6) .any) (fun k => []) (fun k => k ≤ m) (fun k => m - k) 0 (fun k => by simp) ?_ fun k hk' => ?_
    · exact ⟨0, [], Nat.zero_le _, ⟨⟨⟨rfl, rfl, rfl⟩, ⟨congrArg (fun z => AV.v (Value.int .i64 z)) (by omega), rfl, rfl⟩, trivial, trivial, trivial, ⟨rfl, rfl, rfl⟩, fitT_rep _ _ rfl⟩, trivial, by simp [rn, hpAt]⟩, by simp [keepIds]⟩
    have w2 : IntKind.i64.wrap ((k : Int) + 1) = ((k + 1 : Nat) : Int) := by rw [wrap_id] <;> omega
    by_cases hk : k < m
    · have hrow := erRows_get (erMks c m) k (by rw [erMks_len]; exact hk)
      have hmk : (erMks c m)[k]'(by rw [erMks_len]; exact hk) = erMk c k := by simp [erMks]
      rw [hmk] at hrow
      simp only [erMk] at hrow
      have hlt : ((k : Int) < (m : Int)) = True := eq_true (by omega)
      have h0 : (0 ≤ (k : Int)) = True := eq_true (by omega)
      have u0 : IntKind.i64.wrap (c + 2 * (k : Int) + 1) = c + 2 * (k : Int) + 1 := by rw [wrap_id] <;> omega
      have n0 : ((c + 2 * (k : Int)) != (c + 2 * (k : Int))) = false := by simp
      have u1 : IntKind.i64.wrap (c + 2 * (k : Int) + 1 + 1) = c + 2 * ((k + 1 : Nat) : Int) := by rw [wrap_id] <;> omega
      have v1 : IntKind.u8.wrap (c + 2 * (k : Int) + 1) = ((toU8 (c + 2 * (k : Int) + 1)).toNat : Int) := (toU8_val _).symm
      have n1 : (((toU8 (c + 2 * (k : Int) + 1)).toNat : Int) != ((toU8 (c + 2 * (k : Int) + 1)).toNat : Int)) = false := by simp
      simp (maxSteps := 3000000) only [Try.f44, erRows_len, erMks_len, hrow, hlt, h0, D.toI, u0, n0, u1, n1, v1, tYs, evL, implies_true, oMin, x_min3, oMin3, x_max, oMax, oCopy, oBin, oUn, oLoadKid, oStoreTree, oField, oExtract, oNil, oSliceQ, oSliceE, x_appendZ, oAppendZ, oSliceEnd, endMode, oLoadRow, takeCells, TS.atRow, TS.ex, treeMode, AV.isOwn, TK.isSl, nilTk, nilsB, oLenQ, oLen, nodupB, treeOf, kidAbs, kidRows, TK.isCell, D.toL, oLoad, oStore, oMake, oIndexAddr, ↓reduceIte, reduceCtorEq, Nat.reduceBEq, Nat.reduceAdd, Nat.reduceMul, Nat.reduceLT, Nat.reduceSub, Nat.reduceLeDiff, Nat.reduceEqDiff, Nat.reduceBneDiff, Int.reduceToNat, decide_eq_true_eq, decide_eq_false_iff_not, beq_iff_eq, Int.toNat_natCast, loopK_normal, loopK_exit, loopK_ret, w2]
      repeat' first
        | refine And.intro (by omega) ?_
        | refine And.intro (by kernel_rfl) ?_
      exact ⟨k + 1, [], by omega, by omega, ⟨⟨⟨rfl, rfl, rfl⟩, ⟨rfl, rfl, rfl⟩, trivial, trivial, trivial, ⟨rfl, rfl, rfl⟩, fitT_rep _ _ rfl⟩, trivial, by simp [rn, hpAt]⟩, by simp [keepIds]⟩
    · have hlt : ((k : Int) < (m : Int)) = False := eq_false (by omega)
      simp (maxSteps := 3000000) only [Try.f44, erRows_len, erMks_len, hlt, tYs, evL, implies_true, oMin, x_min3, oMin3, x_max, oMax, oCopy, oBin, oUn, oLoadKid, oStoreTree, oField, oExtract, oNil, oSliceQ, oSliceE, x_appendZ, oAppendZ, oSliceEnd, endMode, oLoadRow, takeCells, TS.atRow, TS.ex, treeMode, AV.isOwn, TK.isSl, nilTk, nilsB, oLenQ, oLen, nodupB, treeOf, kidAbs, kidRows, TK.isCell, D.toL, oLoad, oStore, oMake, oIndexAddr, ↓reduceIte, reduceCtorEq, Nat.reduceBEq, Nat.reduceAdd, Nat.reduceMul, Nat.reduceLT, Nat.reduceSub, Nat.reduceLeDiff, Nat.reduceEqDiff, Nat.reduceBneDiff, Int.reduceToNat, decide_eq_true_eq, decide_eq_false_iff_not, beq_iff_eq, Int.toNat_natCast, loopK_normal, loopK_exit, loopK_ret, w2]
      obtain rfl : k = m := by omega
      exact ⟨_, [], rfl, ⟨⟨⟨rfl, rfl, rfl⟩, trivial⟩, trivial, by simp [rn, hpAt]⟩⟩
  · cases hg
end Go.Proofs.Ytkfjaeoehhakpaa
