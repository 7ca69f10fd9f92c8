import Derived.Test.YtloffpgdclbkhaaTa
import Derived.Test.YtloffpgdclbkhaaSh
import Derived.Test.YtloffpgdclbkhaaLw
namespace Go.Proofs.Ytloffpgdclbkhaa
open Go.RowKit
set_option linter.unusedSimpArgs false

/-! old contracts of numbers, told of the plain machine -/
def g_numberAt : PC := fun args => match args with
  | [.l _ rows, .v (.int .i64 a), .v (.int .i64 n)] => some (∃ xs, rows = rowsOfBytes xs ∧ xs.length ≤ 140737488355328, .v (.int .i64 (numAt (bytesOfRows rows) a n)), [])
  | _ => none
/-! chapter 3: queries as bytes -/
def qbV (k l a w : Int) : List UInt8 := if qB k l a w = true then [toU8 k, toU8 l] ++ bytesOf a 2 ++ bytesOf w 2 else []
def g_queryBytes : PC := fun args => match args with
  | [.agg [.v (.int .i64 k), .v (.int .i64 l), .v (.int .i64 a), .v (.int .i64 w)]] => some (True, .own 0, [.sl 5 1 (rowsOfBytes (qbV k l a w))])
  | _ => none
/-- the query that bytes tell, or none -/
def qfOk (xs : List UInt8) : Bool := decide (xs.length = 6) && qB ((xs.getD 0 0).toNat : Int) ((xs.getD 1 0).toNat : Int) (numAt xs 2 2) (numAt xs 4 2)
def qfK (xs : List UInt8) : Int := if qfOk xs = true then ((xs.getD 0 0).toNat : Int) else 0
def qfL (xs : List UInt8) : Int := if qfOk xs = true then ((xs.getD 1 0).toNat : Int) else 0
def qfA (xs : List UInt8) : Int := if qfOk xs = true then numAt xs 2 2 else 0
def qfW (xs : List UInt8) : Int := if qfOk xs = true then numAt xs 4 2 else 0
def g_queryFrom : PC := fun args => match args with
  | [.l _ rows] => some (∃ xs, rows = rowsOfBytes xs ∧ xs.length ≤ 140737488355328, .tup [.agg [.v (.int .i64 (qfK (bytesOfRows rows))), .v (.int .i64 (qfL (bytesOfRows rows))), .v (.int .i64 (qfA (bytesOfRows rows))), .v (.int .i64 (qfW (bytesOfRows rows)))], .v (.bool (qfOk (bytesOfRows rows)))], [])
  | _ => none
/-- is a query answered -/
def ntB (link addr k l a w : Int) : Bool := qB k l a w && decide (k = 1 ∧ w = addr) && qB 2 link addr a
def g_nearTells : PC := fun args => match args with
  | [.v (.int .i64 link), .v (.int .i64 addr), .agg [.v (.int .i64 k), .v (.int .i64 l), .v (.int .i64 a), .v (.int .i64 w)]] => some (True, .tup [.agg [.v (.int .i64 (if ntB link addr k l a w = true then 2 else 0)), .v (.int .i64 (if ntB link addr k l a w = true then link else 0)), .v (.int .i64 (if ntB link addr k l a w = true then addr else 0)), .v (.int .i64 (if ntB link addr k l a w = true then a else 0))], .v (.bool (ntB link addr k l a w))], [])
  | _ => none
/-! bytes copied -/
def g_bytesCopied : PC := fun args => match args with
  | [.l _ rows] => some (∃ xs, rows = rowsOfBytes xs ∧ xs.length ≤ 1048576, .own 0, [.sl 5 1 rows])
  | _ => none
set_option maxRecDepth 100000 in
theorem bytesCopied_ok : PureOk Try.prog 70 g_bytesCopied := by
  refine PureOk.of_vc (G := []) (by simp) mixed Try.func70 (by kernel_rfl) rfl ?_
  intro args cnd r bs hg hc
  unfold g_bytesCopied at hg
  split at hg
  · rename_i sz rows
    cases hg
    obtain ⟨xs, rfl, hl⟩ := hc
    refine ⟨⟨rfl, by simpa [flatB] using rowsOf_flat xs, by simp [AV.ids]⟩, [.l 1 (rowsOfBytes xs)], rfl, fun w vs h => CvL.ok (.cons (.l _ _ _ (rowsOf_w xs)) .nil) h, ?_⟩
    simp (maxSteps := 3000000) only [Try.f70, rowsOf_len, List.length_replicate, tY5, Try.underlying22, e_ret, e_seq, e_region, seqK_normal, regK_false, e_nil, e_cons, gateK_go, exK_some, x_move, x_assign, x_makeSlice, x_len, x_copy, oCopy, done_ret, gate_none, evA, putT, fpD, upsl, upl, lk, dstsOf, resL, resA, packA, oMake, oLen, lenOf, rowsOf, Value.oneCell', Value.cells, hpAt, List.map_cons, List.map_nil, List.getD_cons_zero, List.getD_cons_succ, List.set_cons_zero, List.set_cons_succ, List.length_cons, List.length_nil, List.replicate, List.cons_append, List.nil_append, List.toList_toArray, List.all_nil, List.all_cons, Bool.and_self, true_and, ↓reduceIte, List.size_toArray, Bool.false_eq_true, and_self, decide_true, Nat.reduceAdd, Nat.reduceMul, Nat.reduceLT, Nat.reduceSub, eq_self, Nat.lt_add_one, Int.toNat_natCast]
    refine ⟨by omega, rowsOf_w _, _, [(0, some 48)], rfl, ?_⟩
    (refine ⟨?_, ?_, ?_⟩ <;> simp [fitT, fit1, fitH, fitB, trE, rn, lk, AV.ren, Blk.ren, blkIds, blkPids, AV.ids, AV.pids, Blk.there])
  · cases hg
end Go.Proofs.Ytloffpgdclbkhaa
