import Derived.Test.YtikcpbgnmdhilaaJe
import Derived.Test.YtikcpbgnmdhilaaJa
import Derived.Test.YtikcpbgnmdhilaaLb
import Derived.Test.YtikcpbgnmdhilaaVa
import Derived.Test.YtikcpbgnmdhilaaR7
import Derived.Test.YtikcpbgnmdhilaaVf
import Derived.Test.YtikcpbgnmdhilaaNum
import Derived.Test.YtikcpbgnmdhilaaTn
import Derived.Test.YtikcpbgnmdhilaaTc
import Derived.Test.YtikcpbgnmdhilaaR6
set_option linter.unusedVariables false
set_option linter.unusedSimpArgs false
namespace Go.Proofs.Ytikcpbgnmdhilaa
open Go.RowKit
set_option linter.unusedSimpArgs false
def rgEq (e e' : Rg) : Bool := e.f == e'.f && e.t == e'.t
def rgEqs : List Rg → List Rg → Bool
  | [], [] => true
  | x :: t, y :: u => rgEq x y && rgEqs t u
  | _, _ => false
theorem rgEq_iff {e e' : Rg} : rgEq e e' = true ↔ e = e' := by
  cases e; cases e'
  simp [rgEq, and_assoc]
theorem rgEqs_iff : ∀ {l l' : List Rg}, rgEqs l l' = true ↔ l = l'
  | [], [] => by simp [rgEqs]
  | [], _ :: _ => by simp [rgEqs]
  | _ :: _, [] => by simp [rgEqs]
  | x :: t, y :: u => by rw [rgEqs, Bool.and_eq_true, rgEq_iff, rgEqs_iff, List.cons.injEq]
theorem rgEqs_refl (l : List Rg) : rgEqs l l = true := rgEqs_iff.2 rfl
theorem rgEqs_len {l l' : List Rg} (h : l.length ≠ l'.length) : rgEqs l l' = false := by
  rw [Bool.eq_false_iff]
  intro hn
  rw [rgEqs_iff.1 hn] at h
  exact h rfl
theorem rgRows_set (l : List Rg) (k : Nat) (e : Rg) : (rgRows l).set k [D.v (.int .i64 e.f), D.v (.int .i64 e.t)] = rgRows (l.set k e) := by
  rw [rgRows, rgRows, List.map_set]; rfl
def g_rgEqS : PC := fun args => match args with
  | [.l _ rows, .l _ rows'] => some ((∃ l, rows = rgRows l ∧ l.length ≤ 1048577) ∧ ∃ l, rows' = rgRows l ∧ l.length ≤ 1048577, .v (.bool (rgEqs (rgsOf rows) (rgsOf rows'))), [])
  | _ => none
set_option maxHeartbeats 1000000 in
set_option maxRecDepth 100000 in
theorem sameRanges_ok : PureOk Try.prog 26 g_rgEqS := by
  refine PureOk.of_vc (G := []) (by simp) mixed Try.func26 (by kernel_rfl) rfl ?_
  intro args cnd r bs hg hc
  unfold g_rgEqS at hg
  split at hg
  · rename_i sz rows sz' rows'
    cases hg
    obtain ⟨⟨l, rfl, hl⟩, l', rfl, hl'⟩ := hc
    rw [rgsOf_rows, rgsOf_rows]
    refine ⟨⟨rfl, by simp, by simp [AV.ids, AV.ids.idsL]⟩, [.l 2 (rgRows l), .l 2 (rgRows l')], rfl, fun w vs h => CvL.ok (.cons (.l _ _ _ (rgRows_w l)) (.cons (.l _ _ _ (rgRows_w l')) .nil)) h, ?_⟩
    simp (maxSteps := 3000000) only [Try.f26, rgRows_len, tYs, evL, implies_true, oMin, x_min3, oMin3, x_max, oMax, oCopy, oBin, oUn, oLoadKid, oStoreTree, oField, oExtract, oNil, oSliceQ, oSliceE, x_appendZ, oAppendZ, oSliceEnd, endMode, oLoadRow, takeCells, TS.atRow, TS.ex, treeMode, AV.isOwn, TK.isSl, nilTk, nilsB, oLenQ, oLen, nodupB, treeOf, kidAbs, kidRows, TK.isCell, D.toL, oLoad, oStore, oMake, oIndexAddr, ↓reduceIte, reduceCtorEq, Nat.reduceBEq, Nat.reduceAdd, Nat.reduceMul, Nat.reduceLT, Nat.reduceSub, Nat.reduceLeDiff, Nat.reduceEqDiff, Nat.reduceBneDiff, Int.reduceToNat, decide_eq_true_eq, decide_eq_false_iff_not, beq_iff_eq, Int.toNat_natCast]
    by_cases hne : l.length = l'.length
    · first | rw [if_neg (by simp [hne])] | rw [if_pos (by simp [hne])]
      refine e_loop _ _ _ _ _ _ _ _ (fun k : Nat => [.l 2 (rgRows l), .l 2 (rgRows l'), .any, .any, .any, .v (.int .i64 (k : Int))] ++ List.replicate (Try.f26.ntmps - 6) .any) (fun k => []) (fun k => k ≤ l.length ∧ rgEqs l l' = rgEqs (l.drop k) (l'.drop k)) (fun k => l.length - k) 0 (fun k => by simp) ?_ fun k hk' => ?_
      · exact ⟨0, [], ⟨Nat.zero_le _, rfl⟩, ⟨⟨⟨rfl, rfl, rfl⟩, ⟨rfl, rfl, rfl⟩, trivial, trivial, trivial, ⟨rfl, rfl, rfl⟩, fitT_rep _ _ rfl⟩, trivial, by simp [rn, hpAt]⟩, by simp [keepIds]⟩
      obtain ⟨hk1, hinv⟩ := hk'
      have w2 : IntKind.i64.wrap ((k : Int) + 1) = ((k + 1 : Nat) : Int) := by rw [wrap_id] <;> omega
      by_cases hk : k < l.length
      · have hrow := rgRows_get l k hk
        have hrow' := rgRows_get l' k (by omega)
        have hlt : ((k : Int) < (l.length : Int)) = True := eq_true (by omega)
        have hlt' : ((k : Int) < (l'.length : Int)) = True := eq_true (by omega)
        have h0 : (0 ≤ (k : Int)) = True := eq_true (by omega)
        rw [List.drop_eq_getElem_cons hk, List.drop_eq_getElem_cons (show k < l'.length by omega), rgEqs] at hinv
        simp (maxSteps := 3000000) only [Try.f26, hrow, rgRows_len, rgsOf_rows, hrow', hlt, hlt', h0, D.toI, D.toL, tYs, evL, implies_true, oMin, x_min3, oMin3, x_max, oMax, oCopy, oBin, oUn, oLoadKid, oStoreTree, oField, oExtract, oNil, oSliceQ, oSliceE, x_appendZ, oAppendZ, oSliceEnd, endMode, oLoadRow, takeCells, TS.atRow, TS.ex, treeMode, AV.isOwn, TK.isSl, nilTk, nilsB, oLenQ, oLen, nodupB, treeOf, kidAbs, kidRows, TK.isCell, D.toL, oLoad, oStore, oMake, oIndexAddr, ↓reduceIte, reduceCtorEq, Nat.reduceBEq, Nat.reduceAdd, Nat.reduceMul, Nat.reduceLT, Nat.reduceSub, Nat.reduceLeDiff, Nat.reduceEqDiff, Nat.reduceBneDiff, Int.reduceToNat, decide_eq_true_eq, decide_eq_false_iff_not, beq_iff_eq, Int.toNat_natCast, loopK_normal, loopK_exit, loopK_ret, w2]
        have hE : rgEq l[k] l'[k] = ((l[k].f == l'[k].f) && (l[k].t == l'[k].t)) := by simp only [rgEq]
        rw [← hE]
        refine ⟨by kernel_rfl, ?_⟩
        cases he : rgEq l[k] l'[k] with
        | true =>
          rw [he, Bool.true_and] at hinv
          first | rw [if_neg (by decide)] | rw [if_pos (by decide)]
          exact ⟨k + 1, [], ⟨by omega, hinv⟩, by omega, ⟨⟨⟨rfl, rfl, rfl⟩, ⟨rfl, rfl, rfl⟩, trivial, trivial, trivial, ⟨rfl, rfl, rfl⟩, fitT_rep _ _ rfl⟩, trivial, by simp [rn, hpAt]⟩, by simp [keepIds]⟩
        | false =>
          rw [he, Bool.false_and] at hinv
          first | rw [if_pos (by decide)] | rw [if_neg (by decide)]
          rw [hinv]
          exact ⟨_, [], rfl, ⟨⟨⟨rfl, rfl, rfl⟩, trivial⟩, trivial, by simp [rn, hpAt]⟩⟩
      · have hlt : ((k : Int) < (l.length : Int)) = False := eq_false (by omega)
        simp (maxSteps := 3000000) only [Try.f26, hlt, rgRows_len, rgsOf_rows, hlt, D.toI, D.toL, tYs, evL, implies_true, oMin, x_min3, oMin3, x_max, oMax, oCopy, oBin, oUn, oLoadKid, oStoreTree, oField, oExtract, oNil, oSliceQ, oSliceE, x_appendZ, oAppendZ, oSliceEnd, endMode, oLoadRow, takeCells, TS.atRow, TS.ex, treeMode, AV.isOwn, TK.isSl, nilTk, nilsB, oLenQ, oLen, nodupB, treeOf, kidAbs, kidRows, TK.isCell, D.toL, oLoad, oStore, oMake, oIndexAddr, ↓reduceIte, reduceCtorEq, Nat.reduceBEq, Nat.reduceAdd, Nat.reduceMul, Nat.reduceLT, Nat.reduceSub, Nat.reduceLeDiff, Nat.reduceEqDiff, Nat.reduceBneDiff, Int.reduceToNat, decide_eq_true_eq, decide_eq_false_iff_not, beq_iff_eq, Int.toNat_natCast, loopK_normal, loopK_exit, loopK_ret, w2]
        rw [List.drop_eq_nil_of_le (by omega), List.drop_eq_nil_of_le (by omega), rgEqs] at hinv
        rw [hinv]
        exact ⟨_, [], rfl, ⟨⟨⟨rfl, rfl, rfl⟩, trivial⟩, trivial, by simp [rn, hpAt]⟩⟩
    · first | rw [if_pos (by simp; omega)] | rw [if_neg (by simp; omega)]
      rw [rgEqs_len hne]
      exact ⟨_, [], rfl, ⟨⟨⟨rfl, rfl, rfl⟩, trivial⟩, trivial, by simp [rn, hpAt]⟩⟩
  · cases hg
end Go.Proofs.Ytikcpbgnmdhilaa
