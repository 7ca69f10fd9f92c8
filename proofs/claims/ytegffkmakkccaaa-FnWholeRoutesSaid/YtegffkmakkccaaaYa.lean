import Derived.Test.YtegffkmakkccaaaTa
import Derived.Test.YtegffkmakkccaaaR7
namespace Go.Proofs.Ytegffkmakkccaaa
open Go.RowKit
set_option linter.unusedSimpArgs false
set_option linter.unusedVariables false
structure RE where
  a : Int
  b : Int
  v : Int
  m : Int
def rt0 : RE := ⟨0, 0, 0, 0⟩
def rtRow (e : RE) : List D := [.v (.int .i64 e.a), .v (.int .i64 e.b), .v (.int .i64 e.v), .v (.int .i64 e.m)]
def rtRows (l : List RE) : List (List D) := l.map rtRow
def rtOf (r : List D) : RE := ⟨(r.getD 0 (.v undef)).toI, (r.getD 1 (.v undef)).toI, (r.getD 2 (.v undef)).toI, (r.getD 3 (.v undef)).toI⟩
def rtsOf (rows : List (List D)) : List RE := rows.map rtOf
theorem rtsOf_rows (l : List RE) : rtsOf (rtRows l) = l := by
  simp only [rtsOf, rtRows, List.map_map]
  conv => rhs; rw [← List.map_id l]
  exact List.map_congr_left fun e _ => rfl
theorem rtRows_len (l : List RE) : (rtRows l).length = l.length := by simp [rtRows]
theorem rtRows_w (l : List RE) : ∀ r ∈ rtRows l, r.length = 4 := fun r hr => by
  obtain ⟨e, _, rfl⟩ := List.mem_map.1 hr
  rfl
theorem rtRows_get (l : List RE) (k : Nat) (h : k < l.length) : (rtRows l).getD k [] = [.v (.int .i64 l[k].a), .v (.int .i64 l[k].b), .v (.int .i64 l[k].v), .v (.int .i64 l[k].m)] := by
  simp [rtRows, List.getD, h, rtRow]
theorem rtRows_flat (l : List RE) : ∀ r ∈ rtRows l, ∀ d ∈ r, ∃ x, d = .v x := fun r hr d hd => by
  obtain ⟨e, _, rfl⟩ := List.mem_map.1 hr
  simp only [rtRow, List.mem_cons, List.not_mem_nil, or_false] at hd
  rcases hd with rfl | rfl | rfl | rfl <;> exact ⟨_, rfl⟩
theorem rtRows_app (a b : List RE) : rtRows a ++ rtRows b = rtRows (a ++ b) := by simp [rtRows]
def span (b : Int) : Int := (2 : Int) ^ (16 - b).toNat
theorem span_shift {b : Int} (h0 : 0 ≤ b) (h1 : b ≤ 16) : IntKind.i64.wrap (1 * 2 ^ min (IntKind.i64.wrap (16 - b)).toNat IntKind.i64.bits) = span b := by
  have w : IntKind.i64.wrap (16 - b) = 16 - b := wrap_id (by omega) (by omega)
  obtain ⟨n, hn⟩ : ∃ n : Fin 17, (16 - b).toNat = n.val := ⟨⟨(16 - b).toNat, by omega⟩, rfl⟩
  rw [w, span, hn]
  clear w hn
  revert n
  decide
theorem span_bd {b : Int} (h0 : 0 ≤ b) (h1 : b ≤ 16) : 1 ≤ span b ∧ span b ≤ 65536 := by
  obtain ⟨n, hn⟩ : ∃ n : Fin 17, (16 - b).toNat = n.val := ⟨⟨(16 - b).toNat, by omega⟩, rfl⟩
  rw [span, hn]
  clear hn
  revert n
  decide
def g_span : PC := fun args => match args with
  | [.v (.int .i64 b)] => some (0 ≤ b ∧ b ≤ 16, .v (.int .i64 (span b)), [])
  | _ => none
def rOkB (e : RE) : Bool := decide ((0 ≤ e.b ∧ e.b ≤ 16) ∧ (0 ≤ e.a ∧ e.a ≤ 65535) ∧ e.a.tmod (span e.b) = 0 ∧ (0 ≤ e.v ∧ e.v ≤ 65535) ∧ 1 ≤ e.m ∧ e.m ≤ 48)
def fitsB (e : RE) (x : Int) : Bool := rOkB e && inZ x 0 65535 && decide (x / span e.b = e.a / span e.b)
def aheadB (x y : RE) : Bool := decide (x.b < y.b ∨ x.b = y.b ∧ x.a < y.a)
def g_routeOk : PC := fun args => match args with
  | [.agg [.v (.int .i64 a), .v (.int .i64 b), .v (.int .i64 v), .v (.int .i64 m)]] => some (True, .v (.bool (rOkB ⟨a, b, v, m⟩)), [])
  | _ => none
def g_routeFits : PC := fun args => match args with
  | [.agg [.v (.int .i64 a), .v (.int .i64 b), .v (.int .i64 v), .v (.int .i64 m)], .v (.int .i64 x)] => some (True, .v (.bool (fitsB ⟨a, b, v, m⟩ x)), [])
  | _ => none
def g_routeAhead : PC := fun args => match args with
  | [.agg [.v (.int .i64 a), .v (.int .i64 b), .v (.int .i64 v), .v (.int .i64 m)], .agg [.v (.int .i64 a'), .v (.int .i64 b'), .v (.int .i64 v'), .v (.int .i64 m')]] => some (True, .v (.bool (aheadB ⟨a, b, v, m⟩ ⟨a', b', v', m'⟩)), [])
  | _ => none
set_option maxRecDepth 100000 in
theorem routeSpan_ok : PureOk Try.prog 163 g_span := by
  refine PureOk.of_vc (G := []) (by simp) mixed Try.func163 (by kernel_rfl) rfl ?_
  intro args cnd r bs hg hc
  unfold g_span at hg
  split at hg
  · rename_i b
    cases hg
    obtain ⟨h0, h1⟩ := hc
    refine ⟨⟨rfl, by simp, by simp [AV.ids, AV.ids.idsL]⟩, _, rfl, fun w vs h => h, ?_⟩
    simp (maxSteps := 3000000) only [Try.f163, tYs, evL, implies_true, oMin, oCopy, oBin, oUn, oLoadKid, oStoreTree, oField, oExtract, oNil, oSliceQ, oLoadRow, takeCells, TS.atRow, TS.ex, treeMode, AV.isOwn, TK.isSl, nilTk, nilsB, oLenQ, oLen, nodupB, treeOf, kidAbs, kidRows, TK.isCell, D.toL, oLoad, oStore, oMake, oIndexAddr, ↓reduceIte, reduceCtorEq, Nat.reduceBEq, Nat.reduceAdd, Nat.reduceMul, Nat.reduceLT, Nat.reduceSub, Nat.reduceLeDiff, Nat.reduceEqDiff, Nat.reduceBneDiff, Int.reduceToNat, decide_eq_true_eq, decide_eq_false_iff_not, beq_iff_eq, Int.toNat_natCast]
    rw [span_shift h0 h1]
    have w : IntKind.i64.wrap (16 - b) = 16 - b := wrap_id (by omega) (by omega)
    rw [w]
    exact ⟨by omega, _, [], rfl, ⟨⟨⟨rfl, rfl, rfl⟩, trivial⟩, trivial, by simp [rn, hpAt]⟩⟩
  · cases hg
set_option maxRecDepth 100000 in
theorem l6Rest_ok : PureOk Try.prog 162 g_span := by
  refine PureOk.of_vc (G := []) (by simp) mixed Try.func162 (by kernel_rfl) rfl ?_
  intro args cnd r bs hg hc
  unfold g_span at hg
  split at hg
  · rename_i b
    cases hg
    obtain ⟨h0, h1⟩ := hc
    refine ⟨⟨rfl, by simp, by simp [AV.ids, AV.ids.idsL]⟩, _, rfl, fun w vs h => h, ?_⟩
    simp (maxSteps := 3000000) only [Try.f162, tYs, evL, implies_true, oMin, oCopy, oBin, oUn, oLoadKid, oStoreTree, oField, oExtract, oNil, oSliceQ, oLoadRow, takeCells, TS.atRow, TS.ex, treeMode, AV.isOwn, TK.isSl, nilTk, nilsB, oLenQ, oLen, nodupB, treeOf, kidAbs, kidRows, TK.isCell, D.toL, oLoad, oStore, oMake, oIndexAddr, ↓reduceIte, reduceCtorEq, Nat.reduceBEq, Nat.reduceAdd, Nat.reduceMul, Nat.reduceLT, Nat.reduceSub, Nat.reduceLeDiff, Nat.reduceEqDiff, Nat.reduceBneDiff, Int.reduceToNat, decide_eq_true_eq, decide_eq_false_iff_not, beq_iff_eq, Int.toNat_natCast]
    rw [span_shift h0 h1]
    have w : IntKind.i64.wrap (16 - b) = 16 - b := wrap_id (by omega) (by omega)
    rw [w]
    exact ⟨by omega, _, [], rfl, ⟨⟨⟨rfl, rfl, rfl⟩, trivial⟩, trivial, by simp [rn, hpAt]⟩⟩
  · cases hg
def rok : List (FuncId × Abs) := [(126, pureAbs g_isPair), (65, pureAbs g_l1In), (163, pureAbs g_span), (162, pureAbs g_span)]
theorem rok_ok : ∀ p ∈ rok, CallOk Try.prog p.1 p.2 := by
  intro p hp
  simp only [rok, List.mem_cons, List.not_mem_nil, or_false] at hp
  rcases hp with rfl | rfl | rfl | rfl
  · exact isAddr_ok.call
  · exact l1In_ok.call
  · exact routeSpan_ok.call
  · exact l6Rest_ok.call
set_option maxRecDepth 100000 in
theorem implRouteOk_ok : PureOk Try.prog 144 g_routeOk := by
  refine PureOk.of_vc (G := rok) rok_ok mixed Try.func144 (by kernel_rfl) rfl ?_
  intro args cnd r bs hg hc
  unfold g_routeOk at hg
  split at hg
  · rename_i a b v m
    cases hg
    refine ⟨⟨rfl, by simp, by simp [AV.ids, AV.ids.idsL]⟩, _, rfl, fun w vs h => h, ?_⟩
    simp (maxSteps := 3000000) only [Try.f144, rok, g_isPair, g_l1In, g_span, tYs, evL, implies_true, oMin, oCopy, oBin, oUn, oLoadKid, oStoreTree, oField, oExtract, oNil, oSliceQ, oLoadRow, takeCells, TS.atRow, TS.ex, treeMode, AV.isOwn, TK.isSl, nilTk, nilsB, oLenQ, oLen, nodupB, treeOf, kidAbs, kidRows, TK.isCell, D.toL, oLoad, oStore, oMake, oIndexAddr, ↓reduceIte, reduceCtorEq, Nat.reduceBEq, Nat.reduceAdd, Nat.reduceMul, Nat.reduceLT, Nat.reduceSub, Nat.reduceLeDiff, Nat.reduceEqDiff, Nat.reduceBneDiff, Int.reduceToNat, decide_eq_true_eq, decide_eq_false_iff_not, beq_iff_eq, Int.toNat_natCast]
    repeat' first
      | split
      | refine And.intro (by omega) ?_
      | refine And.intro (by have := span_bd (b := b) (by omega) (by omega); omega) ?_
      | refine And.intro (by simp only [inZ, decide_eq_true_eq] at *; omega) ?_
      | refine And.intro (by simp only [inZ, decide_eq_true_eq] at *; have := span_bd (b := b) (by omega) (by omega); omega) ?_
      | refine And.intro (by kernel_rfl) ?_
    all_goals (refine ⟨_, [], rfl, ⟨⟨⟨?_, rfl, rfl⟩, trivial⟩, by simp [hpAt, fitH], by simp [hpAt]⟩⟩; refine congrArg (fun b => AV.v (Value.bool b)) ?_; first | rfl | (rw [Bool.eq_iff_iff]; simp only [rOkB, decide_eq_true_eq, inZ, Bool.and_eq_true, Bool.or_eq_true, bne_iff_ne, Bool.false_eq_true, beq_eq_false_iff_ne, beq_iff_eq, ne_eq, decide_eq_false_iff_not, Bool.not_eq_eq_eq_not, Bool.not_true, Bool.not_false, false_iff, iff_false, true_iff, iff_true] at *; omega))
  · cases hg
set_option maxRecDepth 100000 in
theorem specRouteOk_ok : PureOk Try.prog 143 g_routeOk := by
  refine PureOk.of_vc (G := rok) rok_ok mixed Try.func143 (by kernel_rfl) rfl ?_
  intro args cnd r bs hg hc
  unfold g_routeOk at hg
  split at hg
  · rename_i a b v m
    cases hg
    refine ⟨⟨rfl, by simp, by simp [AV.ids, AV.ids.idsL]⟩, _, rfl, fun w vs h => h, ?_⟩
    simp (maxSteps := 3000000) only [Try.f143, rok, g_isPair, g_l1In, g_span, tYs, evL, implies_true, oMin, oCopy, oBin, oUn, oLoadKid, oStoreTree, oField, oExtract, oNil, oSliceQ, oLoadRow, takeCells, TS.atRow, TS.ex, treeMode, AV.isOwn, TK.isSl, nilTk, nilsB, oLenQ, oLen, nodupB, treeOf, kidAbs, kidRows, TK.isCell, D.toL, oLoad, oStore, oMake, oIndexAddr, ↓reduceIte, reduceCtorEq, Nat.reduceBEq, Nat.reduceAdd, Nat.reduceMul, Nat.reduceLT, Nat.reduceSub, Nat.reduceLeDiff, Nat.reduceEqDiff, Nat.reduceBneDiff, Int.reduceToNat, decide_eq_true_eq, decide_eq_false_iff_not, beq_iff_eq, Int.toNat_natCast]
    repeat' first
      | split
      | refine And.intro (by omega) ?_
      | refine And.intro (by have := span_bd (b := b) (by omega) (by omega); omega) ?_
      | refine And.intro (by simp only [inZ, decide_eq_true_eq] at *; omega) ?_
      | refine And.intro (by simp only [inZ, decide_eq_true_eq] at *; have := span_bd (b := b) (by omega) (by omega); omega) ?_
      | refine And.intro (by kernel_rfl) ?_
    all_goals (refine ⟨_, [], rfl, ⟨⟨⟨?_, rfl, rfl⟩, trivial⟩, by simp [hpAt, fitH], by simp [hpAt]⟩⟩; refine congrArg (fun b => AV.v (Value.bool b)) ?_; first | rfl | (rw [Bool.eq_iff_iff]; simp only [rOkB, decide_eq_true_eq, inZ, Bool.and_eq_true, Bool.or_eq_true, bne_iff_ne, Bool.false_eq_true, beq_eq_false_iff_ne, beq_iff_eq, ne_eq, decide_eq_false_iff_not, Bool.not_eq_eq_eq_not, Bool.not_true, Bool.not_false, false_iff, iff_false, true_iff, iff_true] at *; omega))
  · cases hg
def rfi : List (FuncId × Abs) := [(126, pureAbs g_isPair), (65, pureAbs g_l1In), (163, pureAbs g_span), (162, pureAbs g_span), (144, pureAbs g_routeOk), (143, pureAbs g_routeOk)]
theorem rfi_ok : ∀ p ∈ rfi, CallOk Try.prog p.1 p.2 := by
  intro p hp
  simp only [rfi, List.mem_cons, List.not_mem_nil, or_false] at hp
  rcases hp with rfl | rfl | rfl | rfl | rfl | rfl
  · exact isAddr_ok.call
  · exact l1In_ok.call
  · exact routeSpan_ok.call
  · exact l6Rest_ok.call
  · exact implRouteOk_ok.call
  · exact specRouteOk_ok.call
set_option maxRecDepth 100000 in
theorem implRouteFits_ok : PureOk Try.prog 164 g_routeFits := by
  refine PureOk.of_vc (G := rfi) rfi_ok mixed Try.func164 (by kernel_rfl) rfl ?_
  intro args cnd r bs hg hc
  unfold g_routeFits at hg
  split at hg
  · rename_i a b v m x
    cases hg
    refine ⟨⟨rfl, by simp, by simp [AV.ids, AV.ids.idsL]⟩, _, rfl, fun w vs h => h, ?_⟩
    simp (maxSteps := 3000000) only [Try.f164, rfi, g_isPair, g_l1In, g_span, g_routeOk, tYs, evL, implies_true, oMin, oCopy, oBin, oUn, oLoadKid, oStoreTree, oField, oExtract, oNil, oSliceQ, oLoadRow, takeCells, TS.atRow, TS.ex, treeMode, AV.isOwn, TK.isSl, nilTk, nilsB, oLenQ, oLen, nodupB, treeOf, kidAbs, kidRows, TK.isCell, D.toL, oLoad, oStore, oMake, oIndexAddr, ↓reduceIte, reduceCtorEq, Nat.reduceBEq, Nat.reduceAdd, Nat.reduceMul, Nat.reduceLT, Nat.reduceSub, Nat.reduceLeDiff, Nat.reduceEqDiff, Nat.reduceBneDiff, Int.reduceToNat, decide_eq_true_eq, decide_eq_false_iff_not, beq_iff_eq, Int.toNat_natCast]
    cases hr : rOkB ⟨a, b, v, m⟩ with
    | false =>
      have e : fitsB ⟨a, b, v, m⟩ x = false := by rw [fitsB, hr]; rfl
      rw [e]
      repeat' first
        | (exfalso; simp at *; done)
        | split
        | refine And.intro (by kernel_rfl) ?_
      all_goals first | (exfalso; simp at *; done) | exact ⟨_, [], rfl, ⟨⟨⟨rfl, rfl, rfl⟩, trivial⟩, trivial, by simp [rn, hpAt]⟩⟩
    | true =>
      have hk : (0 ≤ b ∧ b ≤ 16) ∧ 0 ≤ a := by simp only [rOkB, decide_eq_true_eq] at hr; exact ⟨hr.1, hr.2.1.1⟩
      have hs := span_bd hk.1.1 hk.1.2
      cases hx : inZ x 0 65535 with
      | false =>
        have e : fitsB ⟨a, b, v, m⟩ x = false := by rw [fitsB, hr, hx]; rfl
        rw [e]
        repeat' first
          | (exfalso; simp at *; done)
          | split
          | refine And.intro (by kernel_rfl) ?_
        all_goals first | (exfalso; simp at *; done) | exact ⟨_, [], rfl, ⟨⟨⟨rfl, rfl, rfl⟩, trivial⟩, trivial, by simp [rn, hpAt]⟩⟩
      | true =>
        have hx' : 0 ≤ x ∧ x ≤ 65535 := by simpa [inZ] using hx
        have hq : ∀ y : Int, 0 ≤ y → y ≤ 65535 → IntKind.i64.wrap (y.tdiv (span b)) = y / span b := fun y h0 h1 => by
          have h2 : y / span b ≤ y := Int.ediv_le_self _ h0
          have h3 := Int.ediv_nonneg h0 (show 0 ≤ span b by omega)
          rw [Int.tdiv_eq_ediv_of_nonneg h0, wrap_id (by omega) (by omega)]
        have ha : a ≤ 65535 := by simp only [rOkB, decide_eq_true_eq] at hr; exact hr.2.1.2
        rw [hq x hx'.1 hx'.2, hq a hk.2 ha]
        have e : fitsB ⟨a, b, v, m⟩ x = (x / span b == a / span b) := by
          rw [fitsB, hr, hx, Bool.true_and, Bool.true_and, Bool.eq_iff_iff, decide_eq_true_eq, beq_iff_eq]
        rw [e]
        simp only [Bool.not_true, Bool.false_eq_true, Bool.true_eq_false, if_true, if_false, ite_true, ite_false, ↓reduceIte]
        repeat' first
          | refine And.intro (by omega) ?_
          | refine And.intro (by kernel_rfl) ?_
        exact ⟨_, [], rfl, ⟨⟨⟨rfl, rfl, rfl⟩, trivial⟩, trivial, by simp [rn, hpAt]⟩⟩
  · cases hg
set_option maxRecDepth 100000 in
theorem routeAhead_ok : PureOk Try.prog 145 g_routeAhead := by
  refine PureOk.of_vc (G := []) (by simp) mixed Try.func145 (by kernel_rfl) rfl ?_
  intro args cnd r bs hg hc
  unfold g_routeAhead at hg
  split at hg
  · rename_i a b v m a' b' v' m'
    cases hg
    refine ⟨⟨rfl, by simp, by simp [AV.ids, AV.ids.idsL]⟩, _, rfl, fun w vs h => h, ?_⟩
    simp (maxSteps := 3000000) only [Try.f145, tYs, evL, implies_true, oMin, oCopy, oBin, oUn, oLoadKid, oStoreTree, oField, oExtract, oNil, oSliceQ, oLoadRow, takeCells, TS.atRow, TS.ex, treeMode, AV.isOwn, TK.isSl, nilTk, nilsB, oLenQ, oLen, nodupB, treeOf, kidAbs, kidRows, TK.isCell, D.toL, oLoad, oStore, oMake, oIndexAddr, ↓reduceIte, reduceCtorEq, Nat.reduceBEq, Nat.reduceAdd, Nat.reduceMul, Nat.reduceLT, Nat.reduceSub, Nat.reduceLeDiff, Nat.reduceEqDiff, Nat.reduceBneDiff, Int.reduceToNat, decide_eq_true_eq, decide_eq_false_iff_not, beq_iff_eq, Int.toNat_natCast]
    repeat' first
      | split
      | refine And.intro (by omega) ?_
      | refine And.intro (by have := span_bd (b := b) (by omega) (by omega); omega) ?_
      | refine And.intro (by simp only [inZ, decide_eq_true_eq] at *; omega) ?_
      | refine And.intro (by simp only [inZ, decide_eq_true_eq] at *; have := span_bd (b := b) (by omega) (by omega); omega) ?_
      | refine And.intro (by kernel_rfl) ?_
    all_goals (refine ⟨_, [], rfl, ⟨⟨⟨?_, rfl, rfl⟩, trivial⟩, by simp [hpAt, fitH], by simp [hpAt]⟩⟩; refine congrArg (fun b => AV.v (Value.bool b)) ?_; first | rfl | (rw [Bool.eq_iff_iff]; simp only [aheadB, decide_eq_true_eq, inZ, Bool.and_eq_true, Bool.or_eq_true, bne_iff_ne, Bool.false_eq_true, beq_eq_false_iff_ne, beq_iff_eq, ne_eq, decide_eq_false_iff_not, Bool.not_eq_eq_eq_not, Bool.not_true, Bool.not_false, false_iff, iff_false, true_iff, iff_true] at *; omega))
  · cases hg
end Go.Proofs.Ytegffkmakkccaaa
