import Derived.Test.YtloffpgdclbkhaaVk
import Derived.Test.YtloffpgdclbkhaaTx
import Derived.Test.YtloffpgdclbkhaaR7
namespace Go.Proofs.Ytloffpgdclbkhaa
open Go.RowKit
set_option linter.unusedSimpArgs false
set_option linter.unusedVariables false

/-! packets in memory of their own -/
def g_bytesCopiedT : PC := fun args => match args with
  | [.l _ rows] => some (∃ xs, rows = rowsOfBytes xs ∧ xs.length ≤ 1048576, .own 0, [.tr .whole 5 1 [.cell] rows])
  | _ => none
theorem bytesCopiedT_ok : PureOk Try.prog 70 g_bytesCopiedT := bytesCopied_ok.toTree fun args c r bs' h => by
  unfold g_bytesCopiedT at h
  split at h
  · cases h; exact ⟨_, rfl, rfl⟩
  · cases h
def g_packetCopied : PC := fun args => match args with
  | [.agg [.v (.int .i64 f), .v (.int .i64 t), .v (.int .i64 p), .v (.int .i64 h), .v (.int .i64 i), .v (.int .i64 a), .v (.bool m), .v (.bool u), .l _ rows]] => some (∃ xs, rows = rowsOfBytes xs ∧ xs.length ≤ 1048576, .agg [.v (.int .i64 f), .v (.int .i64 t), .v (.int .i64 p), .v (.int .i64 h), .v (.int .i64 i), .v (.int .i64 a), .v (.bool m), .v (.bool u), .own 0], [.tr .whole 5 1 [.cell] rows])
  | _ => none
def g_packetPiece : PC := fun args => match args with
  | [.agg [.v (.int .i64 f), .v (.int .i64 t), .v (.int .i64 p), .v (.int .i64 h), .v (.int .i64 i), .v (.int .i64 a), .v (.bool m), .v (.bool u), .l _ rows], .v (.int .i64 n), .v (.int .i64 l)] => some ((∃ xs, rows = rowsOfBytes xs ∧ xs.length ≤ 1048576) ∧ (0 ≤ n ∧ n ≤ (rows.length : Int)) ∧ (1 ≤ l ∧ l ≤ 1048576) ∧ 0 ≤ a ∧ a ≤ 1048576,
      .agg [.v (.int .i64 f), .v (.int .i64 t), .v (.int .i64 p), .v (.int .i64 h), .v (.int .i64 i), .v (.int .i64 (a + n)), .v (.bool (m || decide (l < (rows.length : Int) - n))), .v (.bool u), .own 0], [.tr .whole 5 1 [.cell] ((rows.drop n.toNat).take l.toNat)])
  | _ => none
def pcs : List (FuncId × Abs) := [(70, pureAbs g_bytesCopiedT)]
theorem pcs_ok : ∀ p ∈ pcs, CallOk Try.prog p.1 p.2 := by
  intro p hp
  simp only [pcs, List.mem_cons, List.not_mem_nil, or_false] at hp
  rcases hp with rfl
  · exact bytesCopiedT_ok.call
set_option maxRecDepth 100000 in
theorem packetCopied_ok : PureOk Try.prog 44 g_packetCopied := by
  refine PureOk.of_vc (G := pcs) pcs_ok mixed Try.func44 (by kernel_rfl) rfl ?_
  intro args cnd r bs hg hc
  unfold g_packetCopied at hg
  split at hg
  · rename_i f t p h i a m u sz rows
    cases hg
    obtain ⟨xs, rfl, hl⟩ := hc
    refine ⟨⟨rfl, by simp [flatB], by simp [AV.ids, AV.ids.idsL]⟩, [.agg [.v (.int .i64 f), .v (.int .i64 t), .v (.int .i64 p), .v (.int .i64 h), .v (.int .i64 i), .v (.int .i64 a), .v (.bool m), .v (.bool u), .l 1 (rowsOfBytes xs)]], rfl, fun w vs h => CvL.ok (.cons (.cons (.refl _) (.cons (.refl _) (.cons (.refl _) (.cons (.refl _) (.cons (.refl _) (.cons (.refl _) (.cons (.refl _) (.cons (.refl _) (.cons (.l _ _ _ (rowsOf_w xs)) .nil))))))))) .nil) h, ?_⟩
    simp (maxSteps := 3000000) only [Try.f44, pcs, g_bytesCopiedT, tY22, tY29, e_ret, e_seq, e_region, seqK_normal, regK_false, e_nil, e_cons, gateK_go, exK_some, x_alloc, x_box, x_load, x_store, x_fieldAddr, x_call, callK_some, done_ret, gate_none, evA, putT, fpD, upsl, upl, lk, dstsOf, resL, resA, packA, oLoadQ, oStoreQ, isTrP, oLoad, oStore, oAlloc, oBox, oFieldAddr, putAt, AV.cells, AV.one, Value.oneCell', Value.cells, pureAbs, nrm, hpAt, sh, AV.ren, List.find?_cons, beq_self_eq_true, List.map_cons, List.map_nil, List.getD_cons_zero, List.getD_cons_succ, List.set_cons_zero, List.set_cons_succ, List.length_cons, List.length_nil, List.replicate, List.cons_append, List.nil_append, List.append_nil, List.getElem?_cons_zero, List.getElem?_cons_succ, List.take_zero, List.take_succ_cons, List.take_nil, List.drop_zero, List.drop_succ_cons, List.drop_nil, List.toList_toArray, List.all_nil, List.all_cons, Bool.and_self, true_and, ↓reduceIte, Bool.false_eq_true, and_self, decide_true, Nat.reduceAdd, Nat.reduceMul, Nat.reduceLT, Nat.reduceSub, Nat.reduceLeDiff, Nat.reduceEqDiff, eq_self, reduceCtorEq, Nat.lt_add_one, Nat.zero_lt_succ]
    exact ⟨⟨_, rfl, hl⟩, _, [(0, some _)], rfl, ⟨⟨⟨rfl, rfl, rfl⟩, trivial⟩, ⟨.inl rfl, rfl, rfl, rfl, trivial⟩, by simp [rn]⟩⟩
  · cases hg
def pieceAt (x : Pk) (n l : Nat) : Pk := { x with a := x.a + (n : Int), m := x.m || decide ((l : Int) < (x.d.length : Int) - (n : Int)), d := (x.d.drop n).take l }
def pieceN (n l : Nat) : Nat := (n + l - 1) / l
def piecesK (x : Pk) (l k : Nat) : List Pk := (List.range k).map fun j => pieceAt x (l * j) l
def g_packetPieces : PC := fun args => match args with
  | [.agg [.v (.int .i64 f), .v (.int .i64 t), .v (.int .i64 p), .v (.int .i64 h), .v (.int .i64 i), .v (.int .i64 a), .v (.bool m), .v (.bool u), .l _ rows], .v (.int .i64 l)] => some ((∃ xs, rows = rowsOfBytes xs ∧ xs.length ≤ 1048576) ∧ (1 ≤ l ∧ l ≤ 1048576) ∧ 0 ≤ a ∧ a ≤ 1048576, .own 0, [.tr .whole 29 9 [.cell, .cell, .cell, .cell, .cell, .cell, .cell, .cell, .sl 5 1 [.cell]] (pRows (piecesK ⟨f, t, p, h, i, a, m, u, bytesOfRows rows⟩ l.toNat (pieceN rows.length l.toNat)))])
  | _ => none
def pcs2 : List (FuncId × Abs) := [(71, pureAbs g_packetPiece)]
def cutB (x : Pk) (l : Int) : Bool := x.ok && decide (1 ≤ l ∧ l ≤ 48) && (decide ((x.d.length : Int) ≤ l) || (!x.u && decide (x.a + (((x.d.length - 1) / l.toNat * l.toNat : Nat) : Int) ≤ 255)))
def cutL (x : Pk) (l : Int) : List Pk := if cutB x l = true then (if (x.d.length : Int) ≤ l then [x] else piecesK x l.toNat (pieceN x.d.length l.toNat)) else []
def g_packetCut : PC := fun args => match args with
  | [.agg [.v (.int .i64 f), .v (.int .i64 t), .v (.int .i64 p), .v (.int .i64 h), .v (.int .i64 i), .v (.int .i64 a), .v (.bool m), .v (.bool u), .l _ rows], .v (.int .i64 l)] => some (∃ xs, rows = rowsOfBytes xs ∧ xs.length ≤ 1048576, .tup [.own 0, .v (.bool (cutB ⟨f, t, p, h, i, a, m, u, bytesOfRows rows⟩ l))], [.tr .whole 29 9 [.cell, .cell, .cell, .cell, .cell, .cell, .cell, .cell, .sl 5 1 [.cell]] (pRows (cutL ⟨f, t, p, h, i, a, m, u, bytesOfRows rows⟩ l))])
  | _ => none
def pcs3 : List (FuncId × Abs) := [(43, pureAbs g_packetOk), (44, pureAbs g_packetCopied), (45, pureAbs g_isByte), (46, pureAbs g_packetPieces)]
end Go.Proofs.Ytloffpgdclbkhaa
