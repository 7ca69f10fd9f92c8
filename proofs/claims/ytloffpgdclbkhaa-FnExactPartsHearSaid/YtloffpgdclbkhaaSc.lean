import Derived.Test.YtloffpgdclbkhaaSb
import Derived.Test.YtloffpgdclbkhaaC2f
namespace Go.Proofs.Ytloffpgdclbkhaa
open Go.RowKit
set_option linter.unusedSimpArgs false


/-! from words on memory and back -/
theorem kept_below {a w : World} (h : KeptF (fun _ => False) a w) : Below a.heap.size a w := ⟨h.os, h.tape, h.output, h.size, fun k hk => h.block k hk (fun e => e.elim)⟩
theorem below_kept {a w : World} (h : Below a.heap.size a w) : KeptF (fun _ => False) a w := ⟨h.os, h.tape, h.output, h.size, fun k hk _ => h.block k hk⟩
section
variable {P : Program}
theorem PureOk.of_calls {f : FuncId} {g : PC} (there : ∃ fn c, P.funcs[f]? = some fn ∧ (fn.name == "runtime.NumGoroutine") = false ∧ fn.body = some c)
    (h : ∀ (w : World) (args : List AV) (vs : List Value) (c : Prop) (r : AV) (bs : List Blk), ARel w (Zold w) (fun _ => .none) (fun _ => nilS) args vs → g args = some (c, r, bs) → c → ∃ v, r = .v v ∧ bs = [] ∧ Calls P f vs.toArray w fun e w' => e = .returned v ∧ Below w.heap.size w w') : PureOk P f g := by
  refine ⟨there, fun w args vs c r bs hargs hg hc => ?_⟩
  obtain ⟨v, rfl, rfl, hcall⟩ := h w args vs c r bs hargs hg hc
  refine ⟨⟨rfl, by simp, by simp [AV.ids]⟩, hcall.mono ?_⟩
  rintro e w' ⟨rfl, hb⟩
  refine ⟨v, fun _ => nilS, Zold w, rfl, ⟨fun r => trivial, fun r r' g h1 => h1.elim, fun r g h1 => h1.elim, fun r g h1 => h1.elim, fun b hb' => Nat.lt_of_lt_of_le hb' hb.size, below_kept hb, fun b hb => .inl hb, fun b hb => hb⟩, .v _⟩
/-- a law that answers true, as its walk says it -/
theorem PureOk.walk {f : FuncId} {g : PC} (h : PureOk P f g) {args : List AV} {vs : List Value} {w : World} {c : Prop} (ha : ARel w (Zold w) (fun _ => .none) (fun _ => nilS) args vs) (hg : g args = some (c, .v (.bool true), [])) (hc : c) :
    Calls P f vs.toArray w fun e w' => e = .returned (.bool true) ∧ Below w.heap.size w w' := by
  obtain ⟨-, hcall⟩ := h.does w args vs c _ _ ha hg hc
  refine hcall.mono ?_
  rintro e w' ⟨v, s, Z, rfl, hH, hv⟩
  cases hv
  exact ⟨rfl, kept_below hH.kept⟩
end

def g_alive : PC := fun args => match args with
  | [] => some (True, .v (.bool true), [])
  | _ => none
end Go.Proofs.Ytloffpgdclbkhaa

namespace Go.Proofs.Ytloffpgdclbkhaa
open Go.RowKit
set_option linter.unusedSimpArgs false

def inZ (v lo hi : Int) : Bool := decide (lo ≤ v ∧ v ≤ hi)
def g_isLink : PC := fun args => match args with
  | [.v (.int .i64 v)] => some (True, .v (.bool (inZ v 0 254)), [])
  | _ => none
def g_isByte : PC := fun args => match args with
  | [.v (.int .i64 v)] => some (True, .v (.bool (inZ v 0 255)), [])
  | _ => none
def g_l1In : PC := fun args => match args with
  | [.v (.int .i64 v), .v (.int .i64 a), .v (.int .i64 b)] => some (True, .v (.bool (inZ v a b)), [])
  | _ => none
def frB (t f k : Int) (n : Nat) : Bool := decide (((0 ≤ t ∧ t ≤ 255) ∧ (0 ≤ f ∧ f ≤ 254)) ∧ (0 ≤ k ∧ k ≤ 255) ∧ n ≤ 64)
def g_frameOk : PC := fun args => match args with
  | [.agg [.v (.int .i64 t), .v (.int .i64 f), .v (.int .i64 k), .l _ rows]] => some (∀ r ∈ rows, r.length = 1, .v (.bool (frB t f k rows.length)), [])
  | _ => none


theorem isByte_ok : PureOk Try.prog 45 g_isByte := by
  refine PureOk.of_vc (G := []) (by simp) mixed Try.func45 (by kernel_rfl) rfl ?_
  intro args cnd r bs hg hc
  unfold g_isByte at hg
  split at hg
  · rename_i v
    cases hg
    refine ⟨⟨rfl, by simp, by simp [AV.ids]⟩, _, rfl, fun w vs h => h, ?_⟩
    simp only [Try.f45, e_ret, e_seq, e_region, seqK_normal, regK_false, e_nil, e_cons, gateK_go, gateK_ask, pickK_some, exK_some, x_pick, x_move, x_assign, x_binOp, done_ret, gate_none, gate_some, gateS_some, gateV_bool, boolOf, evA, putT, refn, fpD, oBin, upsl, dstsOf, resL, resA, packA, hpAt, List.map_cons, List.map_nil, List.getD_cons_zero, List.getD_cons_succ, List.set_cons_zero, List.set_cons_succ, List.length_cons, List.length_nil, List.replicate, List.cons_append, List.nil_append, List.all_nil, true_and, ↓reduceIte, Bool.false_eq_true, Bool.not_true, Nat.reduceAdd, Nat.reduceMul, Nat.reduceSub, eq_self, decide_eq_true_eq]
    by_cases h : v ≥ 0
    · rw [if_pos h]
      have e : inZ v 0 255 = decide (v ≤ 255) := by unfold inZ; exact decide_eq_decide.2 ⟨fun h => by omega, fun h => by omega⟩
      rw [e]
      (refine ⟨_, [], rfl, ?_⟩; refine ⟨?_, ?_, ?_⟩ <;> simp [fitT, fit1, fitH, rn, AV.ren, AV.ids, AV.pids, *])
    · rw [if_neg h]
      have e : inZ v 0 255 = false := by unfold inZ; exact decide_eq_false (by omega)
      rw [e]
      (refine ⟨_, [], rfl, ?_⟩; refine ⟨?_, ?_, ?_⟩ <;> simp [fitT, fit1, fitH, rn, AV.ren, AV.ids, AV.pids, *])
  · cases hg
theorem l1In_ok : PureOk Try.prog 41 g_l1In := by
  refine PureOk.of_vc (G := []) (by simp) mixed Try.func41 (by kernel_rfl) rfl ?_
  intro args cnd r bs hg hc
  unfold g_l1In at hg
  split at hg
  · rename_i v lo hi
    cases hg
    refine ⟨⟨rfl, by simp, by simp [AV.ids]⟩, _, rfl, fun w vs h => h, ?_⟩
    simp only [Try.f41, e_ret, e_seq, e_region, seqK_normal, regK_false, e_nil, e_cons, gateK_go, gateK_ask, pickK_some, exK_some, x_pick, x_move, x_assign, x_binOp, done_ret, gate_none, gate_some, gateS_some, gateV_bool, boolOf, evA, putT, refn, fpD, oBin, upsl, dstsOf, resL, resA, packA, hpAt, List.map_cons, List.map_nil, List.getD_cons_zero, List.getD_cons_succ, List.set_cons_zero, List.set_cons_succ, List.length_cons, List.length_nil, List.replicate, List.cons_append, List.nil_append, List.all_nil, true_and, ↓reduceIte, Bool.false_eq_true, Bool.not_true, Nat.reduceAdd, Nat.reduceMul, Nat.reduceSub, eq_self, decide_eq_true_eq]
    repeat' split
    all_goals (refine ⟨_, [], rfl, ⟨⟨⟨?_, rfl, rfl⟩, trivial⟩, by simp [fitH], by simp []⟩⟩; refine congrArg (fun b => AV.v (Value.bool b)) ?_; first | rfl | (rw [Bool.eq_iff_iff]; simp only [decide_eq_true_eq, inZ, Bool.false_eq_true, false_iff] at *; omega))
  · cases hg
/-! the draw, and the law -/
def g_drawFrameOk : PC := fun args => match args with
  | [.l _ rows] => some (∃ xs, rows = rowsOfBytes xs, .agg [.v (.int .i64 (frameV ((bytesOfRows rows).take 2000) 0 2).to), .v (.int .i64 (frameV ((bytesOfRows rows).take 2000) 0 2).frm), .v (.int .i64 (frameV ((bytesOfRows rows).take 2000) 0 2).kind), .own 0], [.sl 5 1 (rowsOfBytes (frameV ((bytesOfRows rows).take 2000) 0 2).data)])
  | _ => none
def g_true : PC := fun args => match args with
  | [.l _ rows] => some (∃ xs, rows = rowsOfBytes xs, .v (.bool true), [])
  | _ => none
end Go.Proofs.Ytloffpgdclbkhaa

namespace Go.Proofs.Ytloffpgdclbkhaa
open Go.RowKit
end Go.Proofs.Ytloffpgdclbkhaa
