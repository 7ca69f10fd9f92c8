import Derived.Test.YtkfjaeoehhakpaaSb
import Derived.Test.YtkfjaeoehhakpaaC2f
namespace Go.Proofs.Ytkfjaeoehhakpaa
open Go.RowKit
set_option linter.unusedSimpArgs false
theorem kept_below {a w : World} (h : KeptF (fun _ => False) a w) : Below a.heap.size a w := ⟨h.os, h.tape, h.output, h.size, fun k hk => h.block k hk (fun e => e.elim)⟩
theorem below_kept {a w : World} (h : Below a.heap.size a w) : KeptF (fun _ => False) a w := ⟨h.os, h.tape, h.output, h.size, fun k hk _ => h.block k hk⟩
theorem rep_of_rd {w : World} {A : Option Addr} {n c : Nat} {xs : List UInt8} (h : Rd w w.heap.size A n (bv xs)) (hc : n ≤ c) : Rep w (Zold w) (.l 1 (rowsOfBytes xs)) (.slice A n c) := by
  have hl := rd_len h
  by_cases hn : 0 < n
  · obtain ⟨b, off, rfl, hb, hcell⟩ := h.cells hn
    have at_ : ∀ i j d, rowAt (rowsOfBytes xs) i j = some d → j = 0 ∧ ∃ x, xs[i]? = some x ∧ d = .v (bval x) := by
      intro i j d hd
      simp only [rowAt, rowsOfBytes, List.getElem?_map] at hd
      cases hx : xs[i]? with
      | none => simp [hx] at hd
      | some x =>
        simp [hx] at hd
        cases j with
        | zero => simp at hd; exact ⟨rfl, x, rfl, hd.symm⟩
        | succ j => simp at hd
    refine .l 1 _ b off n c (fun i _ => bval (xs.getD i 0)) (by rw [rowsOf_len, hl]) hc (rowsOf_w xs) hb (fun i j d hd => ?_) fun i j d hd => ?_
    · obtain ⟨rfl, x, hx, rfl⟩ := at_ i j d hd
      rw [Nat.mul_one, Nat.add_zero]
      refine hcell i _ ?_
      rw [bv_at, hx]
      simp [List.getD, hx]
    · obtain ⟨rfl, x, hx, rfl⟩ := at_ i j d hd
      simp only [List.getD, hx, Option.getD_some]
      exact .v _ rfl
  · have : xs = [] := List.eq_nil_of_length_eq_zero (by omega)
    subst this
    obtain rfl : n = 0 := by omega
    exact .e 1 A c
section
variable {P : Program}
theorem PureOk.of_calls {f : FuncId} {g : PC} (there : ∃ fn c, P.funcs[f]? = some fn ∧ (fn.name == "runtime.NumGoroutine") = false ∧ fn.body = some c)
    (h : ∀ (w : World) (args : List AV) (vs : List Value) (c : Prop) (r : AV) (bs : List Blk), ARel w (Zold w) (fun _ => .none) (fun _ => nilS) args vs → g args = some (c, r, bs) → c → ∃ v, r = .v v ∧ bs = [] ∧ Calls P f vs.toArray w fun e w' => e = .returned v ∧ Below w.heap.size w w') : PureOk P f g := by
  refine ⟨there, fun w args vs c r bs hargs hg hc => ?_⟩
  obtain ⟨v, rfl, rfl, hcall⟩ := h w args vs c r bs hargs hg hc
  refine ⟨⟨rfl, by simp, by simp [AV.ids]⟩, hcall.mono ?_⟩
  rintro e w' ⟨rfl, hb⟩
  refine ⟨v, fun _ => nilS, Zold w, rfl, ⟨fun r => trivial, fun r r' g h1 => h1.elim, fun r g h1 => h1.elim, fun r g h1 => h1.elim, fun b hb' => Nat.lt_of_lt_of_le hb' hb.size, below_kept hb, fun b hb => .inl hb, fun b hb => hb⟩, .v _⟩
theorem PureOk.walk {f : FuncId} {g : PC} (h : PureOk P f g) {args : List AV} {vs : List Value} {w : World} {c : Prop} (ha : ARel w (Zold w) (fun _ => .none) (fun _ => nilS) args vs) (hg : g args = some (c, .v (.bool true), [])) (hc : c) :
    Calls P f vs.toArray w fun e w' => e = .returned (.bool true) ∧ Below w.heap.size w w' := by
  obtain ⟨-, hcall⟩ := h.does w args vs c _ _ ha hg hc
  refine hcall.mono ?_
  rintro e w' ⟨v, s, Z, rfl, hH, hv⟩
  cases hv
  exact ⟨rfl, kept_below hH.kept⟩
end
end Go.Proofs.Ytkfjaeoehhakpaa
namespace Go.Proofs.Ytkfjaeoehhakpaa
open Go.RowKit
set_option linter.unusedSimpArgs false
def inZ (v lo hi : Int) : Bool := decide (lo ≤ v ∧ v ≤ hi)
def g_l1In : PC := fun args => match args with
  | [.v (.int .i64 v), .v (.int .i64 a), .v (.int .i64 b)] => some (True, .v (.bool (inZ v a b)), [])
  | _ => none
def frB (t f k : Int) (n : Nat) : Bool := decide (((0 ≤ t ∧ t ≤ 255) ∧ (0 ≤ f ∧ f ≤ 254)) ∧ (0 ≤ k ∧ k ≤ 255) ∧ n ≤ 64)
theorem l1In_ok : PureOk Try.prog 32 g_l1In := by
  refine PureOk.of_vc (G := []) (by simp) mixed Try.func32 (by kernel_rfl) rfl ?_
  intro args cnd r bs hg hc
  unfold g_l1In at hg
  split at hg
  · rename_i v lo hi
    cases hg
    refine ⟨⟨rfl, by simp, by simp [AV.ids]⟩, _, rfl, fun w vs h => h, ?_⟩
    simp only [Try.f32, tYs, evL, implies_true, oMin, x_min3, oMin3, x_max, oMax, oCopy, oBin, oUn, oLoadKid, oStoreTree, oField, oExtract, oNil, oSliceQ, oSliceE, x_appendZ, oAppendZ, oSliceEnd, endMode, oLoadRow, takeCells, TS.atRow, TS.ex, treeMode, AV.isOwn, TK.isSl, nilTk, nilsB, oLenQ, oLen, nodupB, treeOf, kidAbs, kidRows, TK.isCell, D.toL, oLoad, oStore, oMake, oIndexAddr, ↓reduceIte, reduceCtorEq, Nat.reduceBEq, Nat.reduceAdd, Nat.reduceMul, Nat.reduceLT, Nat.reduceSub, Nat.reduceLeDiff, Nat.reduceEqDiff, Nat.reduceBneDiff, Int.reduceToNat, decide_eq_true_eq, decide_eq_false_iff_not]
    repeat' split
    all_goals (refine ⟨_, [], rfl, ⟨⟨⟨?_, rfl, rfl⟩, trivial⟩, by simp [hpAt, fitH], by simp [hpAt]⟩⟩; refine congrArg (fun b => AV.v (Value.bool b)) ?_; first | rfl | (rw [Bool.eq_iff_iff]; simp only [decide_eq_true_eq, frB, inZ, Bool.false_eq_true, beq_eq_false_iff_ne, beq_iff_eq, ne_eq, decide_eq_false_iff_not, Bool.not_eq_eq_eq_not, Bool.not_true, Bool.not_false, false_iff, iff_false, true_iff, iff_true] at *; omega))
  · cases hg
end Go.Proofs.Ytkfjaeoehhakpaa
namespace Go.Proofs.Ytkfjaeoehhakpaa
open Go.RowKit
end Go.Proofs.Ytkfjaeoehhakpaa
