import Derived.Test.YtloffpgdclbkhaaTa
import Derived.Test.YtloffpgdclbkhaaSh
namespace Go.Proofs.Ytloffpgdclbkhaa
open Go.RowKit
set_option linter.unusedSimpArgs false

/-! what a station knows and keeps, as data -/
structure KE where
  a : Int
  l : Int
  u : Int
structure HE where
  a : Int
  d : List UInt8
def kRow (e : KE) : List D := [.v (.int .i64 e.a), .v (.int .i64 e.l), .v (.int .i64 e.u)]
def kRows (ks : List KE) : List (List D) := ks.map kRow
def hRow (h : HE) : List D := [.v (.int .i64 h.a), .l 1 (rowsOfBytes h.d)]
def hRows (hs : List HE) : List (List D) := hs.map hRow
def kOf (r : List D) : KE := ⟨(r.getD 0 (.v undef)).toI, (r.getD 1 (.v undef)).toI, (r.getD 2 (.v undef)).toI⟩
def hOf (r : List D) : HE := ⟨(r.getD 0 (.v undef)).toI, bytesOfRows (r.getD 1 (.v undef)).toL⟩
def ksOf (rows : List (List D)) : List KE := rows.map kOf
def hsOf (rows : List (List D)) : List HE := rows.map hOf
/-! where an address is known -/
def kAtF : List KE → Int → Nat → Int
  | [], _, _ => -1
  | e :: t, a, i => if e.a = a then (i : Int) else kAtF t a (i + 1)
def kAt (ks : List KE) (a : Int) : Int := kAtF ks a 0
theorem drop_at {α : Type} (l : List α) (k : Nat) (h : k < l.length) : l.drop k = l[k] :: l.drop (k + 1) := List.drop_eq_getElem_cons h
def g_knownAt : PC := fun args => match args with
  | [.l _ rows, .v (.int .i64 a)] => some (∃ ks, rows = kRows ks ∧ ks.length ≤ 1099511627776, .v (.int .i64 (kAt (ksOf rows) a)), [])
  | _ => none
/-! what can be known and kept together -/
def eOk (e : KE) : Bool := decide ((0 ≤ e.a ∧ e.a ≤ 65535) ∧ (0 ≤ e.l ∧ e.l ≤ 254) ∧ 0 ≤ e.u ∧ e.u ≤ 1000000)
def hOk (h : HE) : Bool := decide ((0 ≤ h.a ∧ h.a ≤ 65535) ∧ h.d.length ≤ 64)
def kAll (ks : List KE) : Prop := ∀ i (h : i < ks.length), eOk ks[i] = true ∧ ∀ j (hj : j < i), ks[j].a ≠ ks[i].a
def hAll (hs : List HE) : Prop := ∀ i (h : i < hs.length), hOk hs[i] = true
def kOkB (ks : List KE) : Bool := decide (ks.length ≤ 4) && (List.range ks.length).all fun i => eOk (ks.getD i ⟨0, 0, 0⟩) && (List.range i).all fun j => (ks.getD j ⟨0, 0, 0⟩).a != (ks.getD i ⟨0, 0, 0⟩).a
def hOkB (hs : List HE) : Bool := decide (hs.length ≤ 4) && hs.all hOk
def nOkB (ks : List KE) (hs : List HE) : Bool := kOkB ks && hOkB hs
def g_entryOk : PC := fun args => match args with
  | [.agg [.v (.int .i64 a), .v (.int .i64 l), .v (.int .i64 u)]] => some (True, .v (.bool (eOk ⟨a, l, u⟩)), [])
  | _ => none
def g_isTime : PC := fun args => match args with
  | [.v (.int .i64 v)] => some (True, .v (.bool (inZ v 0 1000000)), [])
  | _ => none
set_option maxRecDepth 100000 in
theorem isTime_ok : PureOk Try.prog 54 g_isTime := by
  refine PureOk.of_vc (G := []) (by simp) mixed Try.func54 (by kernel_rfl) rfl ?_
  intro args cnd r bs hg hc
  unfold g_isTime at hg
  split at hg
  · rename_i v
    cases hg
    refine ⟨⟨rfl, by simp, by simp [AV.ids]⟩, _, rfl, fun w vs h => h, ?_⟩
    simp (maxSteps := 3000000) only [Try.f54, e_ret, e_seq, e_region, seqK_normal, regK_false, e_nil, e_cons, gateK_go, gateK_ask, pickK_some, exK_some, x_pick, x_move, x_assign, x_binOp, done_ret, gate_none, gate_some, gateS_some, gateV_bool, boolOf, evA, putT, refn, fpD, oBin, upsl, dstsOf, resL, resA, packA, hpAt, List.map_cons, List.map_nil, List.getD_cons_zero, List.getD_cons_succ, List.set_cons_zero, List.set_cons_succ, List.length_cons, List.length_nil, List.replicate, List.cons_append, List.nil_append, List.all_nil, true_and, ↓reduceIte, Bool.false_eq_true, Bool.not_true, Nat.reduceAdd, Nat.reduceMul, Nat.reduceSub, eq_self, decide_eq_true_eq]
    repeat' split
    all_goals (refine ⟨_, [], rfl, ⟨⟨⟨?_, rfl, rfl⟩, trivial⟩, by simp [fitH], by simp []⟩⟩; refine congrArg (fun b => AV.v (Value.bool b)) ?_; first | rfl | (rw [Bool.eq_iff_iff]; simp only [decide_eq_true_eq, inZ, Bool.false_eq_true, false_iff] at *; omega))
  · cases hg

def g_isNearTime : PC := fun args => match args with
  | [.v (.int .i64 v)] => some (True, .v (.bool (inZ v 0 999980)), [])
  | _ => none
def g_knownOk : PC := fun args => match args with
  | [.l _ rows] => some (∃ ks, rows = kRows ks ∧ ks.length ≤ 1099511627776, .v (.bool (kOkB (ksOf rows))), [])
  | _ => none
def g_heldOk : PC := fun args => match args with
  | [.l _ rows] => some (∃ hs, rows = hRows hs ∧ hs.length ≤ 1099511627776, .v (.bool (hOkB (hsOf rows))), [])
  | _ => none
def g_nearOk : PC := fun args => match args with
  | [.agg [.l _ rows, .l _ rows']] => some ((∃ ks, rows = kRows ks ∧ ks.length ≤ 1099511627776) ∧ (∃ hs, rows' = hRows hs ∧ hs.length ≤ 1099511627776), .v (.bool (nOkB (ksOf rows) (hsOf rows'))), [])
  | _ => none
end Go.Proofs.Ytloffpgdclbkhaa

namespace Go.Proofs.Ytloffpgdclbkhaa
open Go.RowKit
set_option linter.unusedSimpArgs false

def oks3 : List (FuncId × Abs) := [(41, pureAbs g_l1In)]
/-! the station that has an address -/
def nfV (ks : List KE) (hs : List HE) (a now : Int) : Int :=
  if nOkB ks hs = true ∧ 0 ≤ kAt ks a ∧ now < (ks.getD (kAt ks a).toNat ⟨0, 0, 0⟩).u then (ks.getD (kAt ks a).toNat ⟨0, 0, 0⟩).l else -1
def g_nearFind : PC := fun args => match args with
  | [.agg [.l _ rows, .l _ rows'], .v (.int .i64 a), .v (.int .i64 now)] => some ((∃ ks, rows = kRows ks ∧ ks.length ≤ 1099511627776) ∧ (∃ hs, rows' = hRows hs ∧ hs.length ≤ 1099511627776), .v (.int .i64 (nfV (ksOf rows) (hsOf rows') a now)), [])
  | _ => none
end Go.Proofs.Ytloffpgdclbkhaa
