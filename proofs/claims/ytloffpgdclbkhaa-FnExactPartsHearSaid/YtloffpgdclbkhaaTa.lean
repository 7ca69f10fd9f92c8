import Derived.Test.YtloffpgdclbkhaaSg
import Derived.Test.YtloffpgdclbkhaaC1a
namespace Go.Proofs.Ytloffpgdclbkhaa
open Go.RowKit
set_option linter.unusedSimpArgs false

/-! chapter 3: queries -/
def qB (k l a w : Int) : Bool := decide ((k = 1 ∨ k = 2) ∧ (0 ≤ l ∧ l ≤ 254) ∧ (0 ≤ a ∧ a ≤ 65535) ∧ (0 ≤ w ∧ w ≤ 65535))
def g_isPair : PC := fun args => match args with
  | [.v (.int .i64 v)] => some (True, .v (.bool (inZ v 0 65535)), [])
  | _ => none
def g_queryOk : PC := fun args => match args with
  | [.agg [.v (.int .i64 k), .v (.int .i64 l), .v (.int .i64 a), .v (.int .i64 w)]] => some (True, .v (.bool (qB k l a w)), [])
  | _ => none
def g_toQuery : PC := fun args => match args with
  | [.agg [.v (.int .i64 k), .v (.int .i64 l), .v (.int .i64 a), .v (.int .i64 w)]] => some (True, .agg [.v (.int .i64 k), .v (.int .i64 l), .v (.int .i64 a), .v (.int .i64 w)], [])
  | _ => none
def g_eqQuery : PC := fun args => match args with
  | [.agg [.v (.int .i64 k), .v (.int .i64 l), .v (.int .i64 a), .v (.int .i64 w)], .agg [.v (.int .i64 k'), .v (.int .i64 l'), .v (.int .i64 a'), .v (.int .i64 w')]] => some (True, .v (.bool (decide (k = k' ∧ l = l' ∧ a = a' ∧ w = w'))), [])
  | _ => none
set_option maxRecDepth 100000 in
theorem isPair_ok : PureOk Try.prog 78 g_isPair := by
  refine PureOk.of_vc (G := []) (by simp) mixed Try.func78 (by kernel_rfl) rfl ?_
  intro args cnd r bs hg hc
  unfold g_isPair at hg
  split at hg
  · rename_i v
    cases hg
    refine ⟨⟨rfl, by simp, by simp [AV.ids]⟩, _, rfl, fun w vs h => h, ?_⟩
    simp (maxSteps := 3000000) only [Try.f78, e_ret, e_seq, e_region, seqK_normal, regK_false, e_nil, e_cons, gateK_go, gateK_ask, pickK_some, exK_some, x_pick, x_move, x_assign, x_binOp, done_ret, gate_none, gate_some, gateS_some, gateV_bool, boolOf, evA, putT, refn, fpD, oBin, upsl, dstsOf, resL, resA, packA, hpAt, List.map_cons, List.map_nil, List.getD_cons_zero, List.getD_cons_succ, List.set_cons_zero, List.set_cons_succ, List.length_cons, List.length_nil, List.replicate, List.cons_append, List.nil_append, List.all_nil, true_and, ↓reduceIte, Bool.false_eq_true, Bool.not_true, Nat.reduceAdd, Nat.reduceMul, Nat.reduceSub, eq_self, decide_eq_true_eq]
    repeat' split
    all_goals (refine ⟨_, [], rfl, ⟨⟨⟨?_, rfl, rfl⟩, trivial⟩, by simp [fitH], by simp []⟩⟩; refine congrArg (fun b => AV.v (Value.bool b)) ?_; first | rfl | (rw [Bool.eq_iff_iff]; simp only [decide_eq_true_eq, inZ, Bool.false_eq_true, false_iff] at *; omega))
  · cases hg
def pairs : List (FuncId × Abs) := [(78, pureAbs g_isPair)]
theorem pairs_ok : ∀ p ∈ pairs, CallOk Try.prog p.1 p.2 := by
  intro p hp
  simp only [pairs, List.mem_cons, List.not_mem_nil, or_false] at hp
  rcases hp with rfl
  · exact isPair_ok.call
set_option maxRecDepth 100000 in
theorem isAddr_ok : PureOk Try.prog 77 g_isPair := by
  refine PureOk.of_vc (G := pairs) pairs_ok mixed Try.func77 (by kernel_rfl) rfl ?_
  intro args cnd r bs hg hc
  unfold g_isPair at hg
  split at hg
  · rename_i v
    cases hg
    refine ⟨⟨rfl, by simp, by simp [AV.ids]⟩, _, rfl, fun w vs h => h, ?_⟩
    simp (maxSteps := 3000000) only [Try.f77, pairs, g_isPair, e_ret, e_seq, e_region, seqK_normal, regK_false, e_nil, e_cons, gateK_go, exK_some, x_move, x_assign, x_call, callK_some, done_ret, gate_none, evA, putT, fpD, upsl, lk, dstsOf, resL, resA, packA, nilV, pureAbs, nrm, hpAt, AV.ren, List.find?_cons, beq_self_eq_true, List.map_cons, List.map_nil, List.getD_cons_zero, List.getD_cons_succ, List.set_cons_zero, List.set_cons_succ, List.length_cons, List.length_nil, List.replicate, List.cons_append, List.nil_append, List.all_nil, true_and, ↓reduceIte, Bool.false_eq_true, Nat.reduceAdd, Nat.reduceMul, Nat.reduceSub, eq_self, Nat.zero_le]
    (refine ⟨_, [], rfl, ⟨⟨⟨?_, rfl, rfl⟩, trivial⟩, by simp [fitH], by simp []⟩⟩; refine congrArg (fun b => AV.v (Value.bool b)) ?_; first | rfl | (rw [Bool.eq_iff_iff]; simp only [decide_eq_true_eq, inZ, Bool.and_eq_true, Bool.or_eq_true, bne_iff_ne, Bool.false_eq_true, beq_eq_false_iff_ne, beq_iff_eq, ne_eq, decide_eq_false_iff_not, Bool.not_eq_eq_eq_not, Bool.not_true, Bool.not_false, false_iff, iff_false, true_iff, iff_true] at *; omega))
  · cases hg
end Go.Proofs.Ytloffpgdclbkhaa
