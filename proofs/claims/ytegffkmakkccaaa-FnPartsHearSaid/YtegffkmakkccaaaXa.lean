import Derived.Test.YtegffkmakkccaaaVk
import Derived.Test.YtegffkmakkccaaaTv
import Derived.Test.YtegffkmakkccaaaR7
namespace Go.Proofs.Ytegffkmakkccaaa
open Go.RowKit
set_option linter.unusedSimpArgs false
set_option linter.unusedVariables false
def g_bytesCopiedT : PC := fun args => match args with
  | [.l _ rows] => some (∃ xs, rows = rowsOfBytes xs ∧ xs.length ≤ 1048576, .own 0, [.tr .whole 5 1 [.cell] rows])
  | _ => none
theorem bytesCopiedT_ok : PureOk Try.prog 80 g_bytesCopiedT := bytesCopied_ok.toTree fun args c r bs' h => by
  unfold g_bytesCopiedT at h
  split at h
  · cases h; exact ⟨_, rfl, rfl⟩
  · cases h
def g_packetCopied : PC := fun args => match args with
  | [.agg [.v (.int .i64 f), .v (.int .i64 t), .v (.int .i64 p), .v (.int .i64 h), .v (.int .i64 i), .v (.int .i64 a), .v (.bool m), .v (.bool u), .l _ rows]] => some (∃ xs, rows = rowsOfBytes xs ∧ xs.length ≤ 1048576, .agg [.v (.int .i64 f), .v (.int .i64 t), .v (.int .i64 p), .v (.int .i64 h), .v (.int .i64 i), .v (.int .i64 a), .v (.bool m), .v (.bool u), .own 0], [.tr .whole 5 1 [.cell] rows])
  | _ => none
def pcs : List (FuncId × Abs) := [(80, pureAbs g_bytesCopiedT)]
theorem pcs_ok : ∀ p ∈ pcs, CallOk Try.prog p.1 p.2 := by
  intro p hp
  simp only [pcs, List.mem_cons, List.not_mem_nil, or_false] at hp
  rcases hp with rfl
  · exact bytesCopiedT_ok.call
set_option maxRecDepth 100000 in
theorem packetCopied_ok : PureOk Try.prog 61 g_packetCopied := by
  refine PureOk.of_vc (G := pcs) pcs_ok mixed Try.func61 (by kernel_rfl) rfl ?_
  intro args cnd r bs hg hc
  unfold g_packetCopied at hg
  split at hg
  · rename_i f t p h i a m u sz rows
    cases hg
    obtain ⟨xs, rfl, hl⟩ := hc
    refine ⟨⟨rfl, by simp [flatB], by simp [AV.ids, AV.ids.idsL]⟩, [.agg [.v (.int .i64 f), .v (.int .i64 t), .v (.int .i64 p), .v (.int .i64 h), .v (.int .i64 i), .v (.int .i64 a), .v (.bool m), .v (.bool u), .l 1 (rowsOfBytes xs)]], rfl, fun w vs h => CvL.ok (.cons (.cons (.refl _) (.cons (.refl _) (.cons (.refl _) (.cons (.refl _) (.cons (.refl _) (.cons (.refl _) (.cons (.refl _) (.cons (.refl _) (.cons (.l _ _ _ (rowsOf_w xs)) .nil))))))))) .nil) h, ?_⟩
    simp (maxSteps := 3000000) only [Try.f61, pcs, g_bytesCopiedT, tYs, evL, implies_true, oMin, oCopy, oBin, oUn, oLoadKid, oStoreTree, oField, oExtract, oNil, oSliceQ, oLoadRow, takeCells, TS.atRow, TS.ex, treeMode, AV.isOwn, TK.isSl, nilTk, nilsB, oLenQ, oLen, nodupB, treeOf, kidAbs, kidRows, TK.isCell, D.toL, oLoad, oStore, oMake, oIndexAddr, ↓reduceIte, reduceCtorEq, Nat.reduceBEq, Nat.reduceAdd, Nat.reduceMul, Nat.reduceLT, Nat.reduceSub, Nat.reduceLeDiff, Nat.reduceEqDiff, Nat.reduceBneDiff, Int.reduceToNat, decide_eq_true_eq, decide_eq_false_iff_not, beq_iff_eq, Int.toNat_natCast]
    exact ⟨⟨_, rfl, hl⟩, _, [(0, some _)], rfl, ⟨⟨⟨rfl, rfl, rfl⟩, trivial⟩, ⟨.inl rfl, rfl, rfl, rfl, trivial⟩, by simp [rn, hpAt]⟩⟩
  · cases hg
def pieceAt (x : Pk) (n l : Nat) : Pk := { x with a := x.a + (n : Int), m := x.m || decide ((l : Int) < (x.d.length : Int) - (n : Int)), d := (x.d.drop n).take l }
def pieceN (n l : Nat) : Nat := (n + l - 1) / l
def piecesK (x : Pk) (l k : Nat) : List Pk := (List.range k).map fun j => pieceAt x (l * j) l
theorem pieceN_lt {n l k : Nat} (hl : 1 ≤ l) : l * k < n ↔ k < pieceN n l := by
  unfold pieceN
  rw [Nat.mul_comm]
  rw [Nat.lt_iff_add_one_le, Nat.lt_iff_add_one_le, Nat.le_div_iff_mul_le (by omega), Nat.add_mul]
  omega
theorem pieceN_le {n l : Nat} (hl : 1 ≤ l) : pieceN n l ≤ n := by
  unfold pieceN
  refine Nat.le_of_lt_succ ((Nat.div_lt_iff_lt_mul (by omega)).2 ?_)
  have : n * 1 ≤ n * l := Nat.mul_le_mul_left _ hl
  rw [Nat.succ_mul]
  omega
def cutB (x : Pk) (l : Int) : Bool := x.ok && decide (1 ≤ l ∧ l ≤ 48) && (decide ((x.d.length : Int) ≤ l) || (!x.u && decide (x.a + (((x.d.length - 1) / l.toNat * l.toNat : Nat) : Int) ≤ 255)))
def cutL (x : Pk) (l : Int) : List Pk := if cutB x l = true then (if (x.d.length : Int) ≤ l then [x] else piecesK x l.toNat (pieceN x.d.length l.toNat)) else []
end Go.Proofs.Ytegffkmakkccaaa
