import Derived.Test.YtkfjaeoehhakpaaIb
import Derived.Test.YtkfjaeoehhakpaaJg
set_option linter.unusedVariables false
set_option linter.unusedSimpArgs false
namespace Go.Proofs.Ytkfjaeoehhakpaa
open Go.RowKit
set_option linter.unusedSimpArgs false
theorem erS_snoc {l : List Er} {k : Nat} (hk : k < l.length) (h : erS (l.take k)) (h1 : ∀ h0 : 0 < k, l[k - 1].p < l[k].p) : erS (l.take (k + 1)) := by
  rw [List.take_add_one, List.getElem?_eq_getElem hk]
  rcases Nat.eq_zero_or_pos k with rfl | h0
  · simp [erS]
  · have e : l.take k = l.take (k - 1) ++ [l[k - 1]] := by
      conv => lhs; rw [show k = (k - 1) + 1 by omega]
      rw [List.take_add_one, List.getElem?_eq_getElem (by omega)]; rfl
    have h2 := h1 h0
    have hp := h
    rw [e] at hp
    unfold erS at h hp ⊢
    rw [List.map_append, List.pairwise_append] at hp ⊢
    refine ⟨h, by simp, fun a ha b hb => ?_⟩
    simp only [Option.toList_some, List.map_cons, List.map_nil, List.mem_singleton] at hb
    subst hb
    rw [e, List.map_append, List.mem_append] at ha
    rcases ha with ha | ha
    · have := hp.2.2 a ha (l[k - 1].p) (by simp)
      omega
    · simp only [List.map_cons, List.map_nil, List.mem_singleton] at ha
      omega
theorem erS_step {l : List Er} {k : Nat} (hk : k < l.length) (h0 : 0 < k) (h : erS l) : l[k - 1].p < l[k].p := by
  have := List.pairwise_iff_getElem.1 h (k - 1) k (by simp; omega) (by simpa using hk) (by omega)
  simpa using this
def eaK (e : Ea) (k : Nat) : Prop := (∀ x ∈ e.fr.take k, e.n < x.p ∧ x.p < e.n + eaF e) ∧ erS (e.fr.take k)
theorem eaK_next {e : Ea} {k : Nat} (hk : k < e.fr.length) (h : eaK e k) (h1 : e.n < e.fr[k].p) (h2 : e.fr[k].p < e.n + eaF e) (h3 : ∀ h0 : 0 < k, e.fr[k - 1].p < e.fr[k].p) : eaK e (k + 1) := by
  refine ⟨fun x hx => ?_, erS_snoc hk h.2 h3⟩
  rw [List.take_add_one, List.getElem?_eq_getElem hk] at hx
  rcases List.mem_append.1 hx with hx | hx
  · exact h.1 x hx
  · simp only [Option.toList_some, List.mem_singleton] at hx
    subst hx
    exact ⟨h1, h2⟩
theorem ea_fault {e : Ea} {k : Nat} (hk : k < e.fr.length) (h : e.fr[k].p ≤ e.n ∨ e.n + eaF e ≤ e.fr[k].p ∨ ∃ h0 : 0 < k, e.fr[k].p ≤ e.fr[k - 1].p) : eaB e = false := by
  rw [Bool.eq_false_iff]
  intro hb
  obtain ⟨_, _, _, h4, h5⟩ := eaB_iff.1 hb
  have := h4 _ (List.getElem_mem hk)
  rcases h with h | h | ⟨h0, h⟩
  · omega
  · omega
  · have := erS_step hk h0 h5
    omega
def dnE (l : List Er) (x : Er) (k : Nat) : Bool := (l.take k).any fun y => decide (x.p ≤ y.p)
def ouE (l : List Er) (x : Er) (k : Nat) : List Er := if dnE l x k = true then insE (l.take k) x else l.take k
theorem insE_done : ∀ {a : List Er} {x : Er} (b : List Er), (∃ z ∈ a, x.p ≤ z.p) → insE (a ++ b) x = insE a x ++ b
  | z :: t, x, b, ⟨y, hy, h⟩ => by
    rw [List.cons_append, insE, insE]
    by_cases h1 : x.p < z.p
    · rw [if_pos h1, if_pos h1]; rfl
    · rw [if_neg h1, if_neg h1]
      by_cases h2 : x.p = z.p
      · rw [if_pos h2, if_pos h2]; rfl
      · rw [if_neg h2, if_neg h2]
        rcases List.mem_cons.1 hy with rfl | hy
        · omega
        · rw [insE_done b ⟨y, hy, h⟩]; rfl
theorem insE_less : ∀ {a : List Er} {x : Er} (b : List Er), (∀ z ∈ a, z.p < x.p) → insE (a ++ b) x = a ++ insE b x
  | [], x, b, _ => rfl
  | z :: t, x, b, h => by
    have := h z (List.mem_cons_self ..)
    rw [List.cons_append, insE, if_neg (by omega), if_neg (by omega), insE_less b fun y hy => h y (List.mem_cons_of_mem _ hy)]; rfl
theorem dnE_next {l : List Er} {x : Er} {k : Nat} (hk : k < l.length) : dnE l x (k + 1) = (dnE l x k || decide (x.p ≤ l[k].p)) := by
  rw [dnE, List.take_add_one, List.getElem?_eq_getElem hk, List.any_append]
  simp [dnE]
theorem dnE_false {l : List Er} {x : Er} {k : Nat} (h : dnE l x k = false) : ∀ z ∈ l.take k, z.p < x.p := fun z hz => by
  rw [dnE, Bool.eq_false_iff] at h
  have : ¬ x.p ≤ z.p := fun hle => h (List.any_eq_true.2 ⟨z, hz, by simpa using hle⟩)
  omega
theorem dnE_true {l : List Er} {x : Er} {k : Nat} (h : dnE l x k = true) : ∃ z ∈ l.take k, x.p ≤ z.p := by
  obtain ⟨z, hz, h2⟩ := List.any_eq_true.1 h
  exact ⟨z, hz, by simpa using h2⟩
theorem take_one {l : List Er} {k : Nat} (hk : k < l.length) : l.take (k + 1) = l.take k ++ [l[k]] := by
  rw [List.take_add_one, List.getElem?_eq_getElem hk]; rfl
theorem ouE_done {l : List Er} {x : Er} {k : Nat} (hk : k < l.length) (h : dnE l x k = true) : ouE l x (k + 1) = ouE l x k ++ [l[k]] := by
  rw [ouE, ouE, dnE_next hk, h, Bool.true_or, if_pos rfl, if_pos rfl, take_one hk, insE_done _ (dnE_true h)]
theorem ouE_lt {l : List Er} {x : Er} {k : Nat} (hk : k < l.length) (h : dnE l x k = false) (h1 : x.p < l[k].p) : ouE l x (k + 1) = (ouE l x k ++ [x]) ++ [l[k]] := by
  rw [ouE, ouE, dnE_next hk, h, decide_eq_true (by omega), Bool.or_true, if_pos rfl, if_neg (by decide), take_one hk, insE_less _ (dnE_false h), insE, if_pos h1, List.append_assoc]; rfl
theorem ouE_eq {l : List Er} {x : Er} {k : Nat} (hk : k < l.length) (h : dnE l x k = false) (h1 : x.p = l[k].p) : ouE l x (k + 1) = ouE l x k ++ [l[k]] := by
  rw [ouE, ouE, dnE_next hk, h, decide_eq_true (by omega), Bool.or_true, if_pos rfl, if_neg (by decide), take_one hk, insE_less _ (dnE_false h), insE, if_neg (by omega), if_pos h1]
theorem ouE_gt {l : List Er} {x : Er} {k : Nat} (hk : k < l.length) (h : dnE l x k = false) (h1 : l[k].p < x.p) : ouE l x (k + 1) = ouE l x k ++ [l[k]] := by
  rw [ouE, ouE, dnE_next hk, h, decide_eq_false (by omega), Bool.or_false, if_neg (by decide), if_neg (by decide), take_one hk]
theorem ouE_len (l : List Er) (x : Er) (k : Nat) : (ouE l x k).length ≤ k + 1 := by
  have hi : ∀ (a : List Er), (insE a x).length ≤ a.length + 1 := by
    intro a
    induction a with
    | nil => simp [insE]
    | cons z t ih => rw [insE]; split <;> try split
                     all_goals (simp only [List.length_cons]; omega)
  rw [ouE]
  split
  · have := hi (l.take k); rw [List.length_take] at this; omega
  · rw [List.length_take]; omega
theorem ouE_end {l : List Er} {x : Er} : (dnE l x l.length = true → ouE l x l.length = insE l x) ∧ (dnE l x l.length = false → ouE l x l.length ++ [x] = insE l x) := by
  refine ⟨fun h => by rw [ouE, if_pos h, List.take_length], fun h => ?_⟩
  have := insE_less (a := l.take l.length) (x := x) [] (dnE_false h)
  rw [List.append_nil, List.take_length] at this
  rw [ouE, if_neg (by rw [h]; decide), List.take_length, this]; rfl
theorem insE_len (l : List Er) (x : Er) : (insE l x).length ≤ l.length + 1 := by
  induction l with
  | nil => simp [insE]
  | cons z t ih => rw [insE]; split <;> try split
                   all_goals (simp only [List.length_cons]; omega)
def g_earOk : PC := fun args => match args with
  | [.agg [.v (.int .i64 n), .v (.int .i64 room), .l _ rg, .l _ rf]] => some ((∃ xs, rg = rowsOfBytes xs ∧ xs.length ≤ 140737488355328) ∧ ∃ l, rf = erRows l ∧ l.length ≤ 1048577, .v (.bool (eaB ⟨n, room, bytesOfRows rg, ersOf rf⟩)), [])
  | _ => none
def g_earFree : PC := fun args => match args with
  | [.agg [.v (.int .i64 n), .v (.int .i64 room), .l _ rg, .l _ rf]] => some ((∃ xs, rg = rowsOfBytes xs ∧ xs.length ≤ 140737488355328) ∧ ∃ l, rf = erRows l ∧ l.length ≤ 1048577, .v (.int .i64 (if eaB ⟨n, room, bytesOfRows rg, ersOf rf⟩ = true then eaF ⟨n, room, bytesOfRows rg, ersOf rf⟩ else 0)), [])
  | _ => none
def g_put12 : PC := fun args => match args with
  | [.l _ rf, .agg [.v (.int .i64 p), .v (.int .u8 b)]] => some ((∃ l, rf = erRows l ∧ l.length ≤ 1048577) ∧ ∃ c : UInt8, b = (c.toNat : Int), .own 0, [.sl 51 2 (erRows (insE (ersOf rf) ⟨p, toU8 b⟩))])
  | _ => none
def go12a : List (FuncId × Abs) := [(32, pureAbs g_l1In)]
theorem go12a_ok : ∀ p ∈ go12a, CallOk Try.prog p.1 p.2 := by
  intro p hp
  simp only [go12a, List.mem_cons, List.not_mem_nil, or_false] at hp
  rcases hp with rfl
  · exact l1In_ok.call
set_option maxHeartbeats 4000000 in
set_option maxRecDepth 100000 in
theorem specEarOk_ok : PureOk Try.prog 9 g_earOk := by
  refine PureOk.of_vc (G := go12a) go12a_ok mixed Try.func9 (by kernel_rfl) rfl ?_
  intro args cnd r bs hg hc
  unfold g_earOk at hg
  split at hg
  · rename_i n room sg rg sf rf
    cases hg
    obtain ⟨⟨xs, rfl, hx⟩, l, rfl, hl⟩ := hc
    rw [bytesOf_rows, ersOf_rows]
    refine ⟨⟨rfl, by simp, by simp [AV.ids, AV.ids.idsL]⟩, [.agg [.v (.int .i64 n), .v (.int .i64 room), .l 1 (rowsOfBytes xs), .l 2 (erRows l)]], rfl, fun w vs h => CvL.ok (.cons (.cons (.refl _) (.cons (.refl _) (.cons (.l _ _ _ (rowsOf_w xs)) (.cons (.l _ _ _ (erRows_w l)) .nil)))) .nil) h, ?_⟩
    rcases h0 : inZ n 0 1000000 with _ | _
    · have e : eaB ⟨n, room, xs, l⟩ = false := by unfold eaB; dsimp only; rw [h0]; simp
      rw [e]
      simp (maxSteps := 3000000) only [Try.f9, go12a, g_l1In, erRows_len, rowsOf_len, h0, List.append_eq, List.cons_append, List.nil_append, Bool.not_true, Bool.not_false, ↓reduceIte, Bool.false_eq_true, D.toI, D.toL, tYs, evL, implies_true, oMin, x_min3, oMin3, x_max, oMax, oCopy, oBin, oUn, oLoadKid, oStoreTree, oField, oExtract, oNil, oSliceQ, oSliceE, x_appendZ, oAppendZ, oSliceEnd, endMode, oLoadRow, takeCells, TS.atRow, TS.ex, treeMode, AV.isOwn, TK.isSl, nilTk, nilsB, oLenQ, oLen, nodupB, treeOf, kidAbs, kidRows, TK.isCell, D.toL, oLoad, oStore, oMake, oIndexAddr, ↓reduceIte, reduceCtorEq, Nat.reduceBEq, Nat.reduceAdd, Nat.reduceMul, Nat.reduceLT, Nat.reduceSub, Nat.reduceLeDiff, Nat.reduceEqDiff, Nat.reduceBneDiff, Int.reduceToNat, decide_eq_true_eq, decide_eq_false_iff_not, beq_iff_eq, Int.toNat_natCast, loopK_normal, loopK_exit, loopK_ret]
      exact ⟨_, [], rfl, ⟨⟨⟨rfl, rfl, rfl⟩, trivial⟩, trivial, by simp [rn, hpAt]⟩⟩
    · rcases h1 : inZ room 1 32 with _ | _
      · have e : eaB ⟨n, room, xs, l⟩ = false := by unfold eaB; dsimp only; rw [h0, h1]; simp
        rw [e]
        simp (maxSteps := 3000000) only [Try.f9, go12a, g_l1In, erRows_len, rowsOf_len, h0, h1, List.append_eq, List.cons_append, List.nil_append, Bool.not_true, Bool.not_false, ↓reduceIte, Bool.false_eq_true, D.toI, D.toL, tYs, evL, implies_true, oMin, x_min3, oMin3, x_max, oMax, oCopy, oBin, oUn, oLoadKid, oStoreTree, oField, oExtract, oNil, oSliceQ, oSliceE, x_appendZ, oAppendZ, oSliceEnd, endMode, oLoadRow, takeCells, TS.atRow, TS.ex, treeMode, AV.isOwn, TK.isSl, nilTk, nilsB, oLenQ, oLen, nodupB, treeOf, kidAbs, kidRows, TK.isCell, D.toL, oLoad, oStore, oMake, oIndexAddr, ↓reduceIte, reduceCtorEq, Nat.reduceBEq, Nat.reduceAdd, Nat.reduceMul, Nat.reduceLT, Nat.reduceSub, Nat.reduceLeDiff, Nat.reduceEqDiff, Nat.reduceBneDiff, Int.reduceToNat, decide_eq_true_eq, decide_eq_false_iff_not, beq_iff_eq, Int.toNat_natCast, loopK_normal, loopK_exit, loopK_ret]
        exact ⟨_, [], rfl, ⟨⟨⟨rfl, rfl, rfl⟩, trivial⟩, trivial, by simp [rn, hpAt]⟩⟩
      · have b0 := inZ_iff.1 h0
        have b1 := inZ_iff.1 h1
        by_cases c2 : (xs.length : Int) > room
        · have f2 : ((xs.length : Int) > room) = True := eq_true c2
          have e : eaB ⟨n, room, xs, l⟩ = false := by unfold eaB; dsimp only; rw [decide_eq_false (show ¬ (xs.length : Int) ≤ room by omega)]; simp
          rw [e]
          simp (maxSteps := 3000000) only [Try.f9, go12a, g_l1In, erRows_len, rowsOf_len, h0, h1, f2, List.append_eq, List.cons_append, List.nil_append, Bool.not_true, Bool.not_false, ↓reduceIte, Bool.false_eq_true, D.toI, D.toL, tYs, evL, implies_true, oMin, x_min3, oMin3, x_max, oMax, oCopy, oBin, oUn, oLoadKid, oStoreTree, oField, oExtract, oNil, oSliceQ, oSliceE, x_appendZ, oAppendZ, oSliceEnd, endMode, oLoadRow, takeCells, TS.atRow, TS.ex, treeMode, AV.isOwn, TK.isSl, nilTk, nilsB, oLenQ, oLen, nodupB, treeOf, kidAbs, kidRows, TK.isCell, D.toL, oLoad, oStore, oMake, oIndexAddr, ↓reduceIte, reduceCtorEq, Nat.reduceBEq, Nat.reduceAdd, Nat.reduceMul, Nat.reduceLT, Nat.reduceSub, Nat.reduceLeDiff, Nat.reduceEqDiff, Nat.reduceBneDiff, Int.reduceToNat, decide_eq_true_eq, decide_eq_false_iff_not, beq_iff_eq, Int.toNat_natCast, loopK_normal, loopK_exit, loopK_ret]
          exact ⟨_, [], rfl, ⟨⟨⟨rfl, rfl, rfl⟩, trivial⟩, trivial, by simp [rn, hpAt]⟩⟩
        have f2 : ((xs.length : Int) > room) = False := eq_false c2
        have hF : eaF ⟨n, room, xs, l⟩ = room - (xs.length : Int) := rfl
        have v1 : IntKind.i64.wrap (n + room) = n + room := wrap_id (by omega) (by omega)
        have v2 : IntKind.i64.wrap (n + room - (xs.length : Int)) = n + room - (xs.length : Int) := wrap_id (by omega) (by omega)
        simp (maxSteps := 3000000) only [Try.f9, go12a, g_l1In, erRows_len, rowsOf_len, h0, h1, f2, List.append_eq, List.cons_append, List.nil_append, Bool.not_true, Bool.not_false, ↓reduceIte, Bool.false_eq_true, D.toI, D.toL, tYs, evL, implies_true, oMin, x_min3, oMin3, x_max, oMax, oCopy, oBin, oUn, oLoadKid, oStoreTree, oField, oExtract, oNil, oSliceQ, oSliceE, x_appendZ, oAppendZ, oSliceEnd, endMode, oLoadRow, takeCells, TS.atRow, TS.ex, treeMode, AV.isOwn, TK.isSl, nilTk, nilsB, oLenQ, oLen, nodupB, treeOf, kidAbs, kidRows, TK.isCell, D.toL, oLoad, oStore, oMake, oIndexAddr, ↓reduceIte, reduceCtorEq, Nat.reduceBEq, Nat.reduceAdd, Nat.reduceMul, Nat.reduceLT, Nat.reduceSub, Nat.reduceLeDiff, Nat.reduceEqDiff, Nat.reduceBneDiff, Int.reduceToNat, decide_eq_true_eq, decide_eq_false_iff_not, beq_iff_eq, Int.toNat_natCast, loopK_normal, loopK_exit, loopK_ret]
        refine e_loop _ _ _ _ _ _ _ _ (fun k : Nat => [.any, .ptr 0 0, .any, .v (.int .i64 (k : Int))] ++ List.replicate (Try.f9.ntmps - 4) .any) (fun k => [(0, .var 30 [.v (.int .i64 n), .v (.int .i64 room), .l 1 (rowsOfBytes xs), .l 2 (erRows l)])]) (fun k => k ≤ l.length ∧ eaK ⟨n, room, xs, l⟩ k) (fun k => l.length - k) 1 (fun k => by simp) ?_ fun k hk' => ?_
        · exact ⟨0, [(0, some _)], ⟨Nat.zero_le _, fun x hx => by simp at hx, List.Pairwise.nil⟩, ⟨⟨trivial, ⟨rfl, rfl, rfl⟩, trivial, ⟨rfl, rfl, rfl⟩, fitT_rep _ _ rfl⟩, ⟨.inl rfl, rfl, rfl, rfl, trivial⟩, by simp [rn, hpAt]⟩, by simp [keepIds]⟩
        obtain ⟨hk1, hinv⟩ := hk'
        have w2 : IntKind.i64.wrap ((k : Int) + 1) = ((k + 1 : Nat) : Int) := by rw [wrap_id] <;> omega
        by_cases hk : k < l.length
        · have hrow := erRows_get l k hk
          have hlt : ((k : Int) < (l.length : Int)) = True := eq_true (by omega)
          have h00 : (0 ≤ (k : Int)) = True := eq_true (by omega)
          by_cases q0 : l[k].p ≤ n
          · have d0 : (l[k].p ≤ n) = True := eq_true q0
            have e : eaB ⟨n, room, xs, l⟩ = false := ea_fault (k := k) hk (.inl q0)
            rw [e]
            simp (maxSteps := 3000000) only [Try.f9, go12a, g_l1In, erRows_len, rowsOf_len, hrow, hlt, h00, d0, w2, List.append_eq, List.cons_append, List.nil_append, Bool.not_true, Bool.not_false, ↓reduceIte, Bool.false_eq_true, D.toI, D.toL, tYs, evL, implies_true, oMin, x_min3, oMin3, x_max, oMax, oCopy, oBin, oUn, oLoadKid, oStoreTree, oField, oExtract, oNil, oSliceQ, oSliceE, x_appendZ, oAppendZ, oSliceEnd, endMode, oLoadRow, takeCells, TS.atRow, TS.ex, treeMode, AV.isOwn, TK.isSl, nilTk, nilsB, oLenQ, oLen, nodupB, treeOf, kidAbs, kidRows, TK.isCell, D.toL, oLoad, oStore, oMake, oIndexAddr, ↓reduceIte, reduceCtorEq, Nat.reduceBEq, Nat.reduceAdd, Nat.reduceMul, Nat.reduceLT, Nat.reduceSub, Nat.reduceLeDiff, Nat.reduceEqDiff, Nat.reduceBneDiff, Int.reduceToNat, decide_eq_true_eq, decide_eq_false_iff_not, beq_iff_eq, Int.toNat_natCast, loopK_normal, loopK_exit, loopK_ret]
            (repeat (refine And.intro ?_ ?_; focus (((repeat' apply And.intro) <;> first | exact rowsOf_w _ | omega | (simp only [List.length_append, rowsOf_len, List.length_cons, List.length_nil, marks_len, List.length_take, List.length_drop, List.length_set]; omega) | exact ⟨_, rfl⟩ | (refine ⟨_, rfl, ?_⟩; omega) | (refine ⟨_, rfl, ?_⟩; simp only [List.length_append, rowsOf_len, List.length_cons, List.length_nil, marks_len, List.length_take, List.length_drop, List.length_set]; omega) | kernel_rfl | (simp; done)); done)))
            exact ⟨_, [], rfl, ⟨⟨⟨rfl, rfl, rfl⟩, trivial⟩, trivial, by simp [rn, hpAt]⟩⟩
          have d0 : (l[k].p ≤ n) = False := eq_false q0
          by_cases q1 : l[k].p ≥ n + room - (xs.length : Int)
          · have d1 : (l[k].p ≥ n + room - (xs.length : Int)) = True := eq_true q1
            have e : eaB ⟨n, room, xs, l⟩ = false := ea_fault (k := k) hk (.inr (.inl (by rw [hF]; show n + (room - (xs.length : Int)) ≤ l[k].p; omega)))
            rw [e]
            simp (maxSteps := 3000000) only [Try.f9, go12a, g_l1In, erRows_len, rowsOf_len, hrow, hlt, h00, d0, d1, v1, v2, w2, List.append_eq, List.cons_append, List.nil_append, Bool.not_true, Bool.not_false, ↓reduceIte, Bool.false_eq_true, D.toI, D.toL, tYs, evL, implies_true, oMin, x_min3, oMin3, x_max, oMax, oCopy, oBin, oUn, oLoadKid, oStoreTree, oField, oExtract, oNil, oSliceQ, oSliceE, x_appendZ, oAppendZ, oSliceEnd, endMode, oLoadRow, takeCells, TS.atRow, TS.ex, treeMode, AV.isOwn, TK.isSl, nilTk, nilsB, oLenQ, oLen, nodupB, treeOf, kidAbs, kidRows, TK.isCell, D.toL, oLoad, oStore, oMake, oIndexAddr, ↓reduceIte, reduceCtorEq, Nat.reduceBEq, Nat.reduceAdd, Nat.reduceMul, Nat.reduceLT, Nat.reduceSub, Nat.reduceLeDiff, Nat.reduceEqDiff, Nat.reduceBneDiff, Int.reduceToNat, decide_eq_true_eq, decide_eq_false_iff_not, beq_iff_eq, Int.toNat_natCast, loopK_normal, loopK_exit, loopK_ret]
            (repeat (refine And.intro ?_ ?_; focus (((repeat' apply And.intro) <;> first | exact rowsOf_w _ | omega | (simp only [List.length_append, rowsOf_len, List.length_cons, List.length_nil, marks_len, List.length_take, List.length_drop, List.length_set]; omega) | exact ⟨_, rfl⟩ | (refine ⟨_, rfl, ?_⟩; omega) | (refine ⟨_, rfl, ?_⟩; simp only [List.length_append, rowsOf_len, List.length_cons, List.length_nil, marks_len, List.length_take, List.length_drop, List.length_set]; omega) | kernel_rfl | (simp; done)); done)))
            exact ⟨_, [], rfl, ⟨⟨⟨rfl, rfl, rfl⟩, trivial⟩, trivial, by simp [rn, hpAt]⟩⟩
          have d1 : (l[k].p ≥ n + room - (xs.length : Int)) = False := eq_false q1
          have q1' : l[k].p < n + eaF ⟨n, room, xs, l⟩ := by rw [hF]; omega
          by_cases q2 : 0 < k
          · have d2 : ((k : Int) > 0) = True := eq_true (by omega)
            have w3 : IntKind.i64.wrap ((k : Int) - 1) = ((k - 1 : Nat) : Int) := by rw [wrap_id] <;> omega
            have hrow' := erRows_get l (k - 1) (by omega)
            have hlt' : (((k - 1 : Nat) : Int) < (l.length : Int)) = True := eq_true (by omega)
            have h01 : (0 ≤ ((k - 1 : Nat) : Int)) = True := eq_true (by omega)
            by_cases q3 : l[k - 1].p ≥ l[k].p
            · have d3 : (l[k - 1].p ≥ l[k].p) = True := eq_true q3
              have e : eaB ⟨n, room, xs, l⟩ = false := ea_fault (k := k) hk (.inr (.inr ⟨q2, q3⟩))
              rw [e]
              simp (maxSteps := 3000000) only [Try.f9, go12a, g_l1In, erRows_len, rowsOf_len, hrow, hrow', hlt, hlt', h00, h01, d0, d1, d2, d3, v1, v2, w2, w3, List.append_eq, List.cons_append, List.nil_append, Bool.not_true, Bool.not_false, ↓reduceIte, Bool.false_eq_true, D.toI, D.toL, tYs, evL, implies_true, oMin, x_min3, oMin3, x_max, oMax, oCopy, oBin, oUn, oLoadKid, oStoreTree, oField, oExtract, oNil, oSliceQ, oSliceE, x_appendZ, oAppendZ, oSliceEnd, endMode, oLoadRow, takeCells, TS.atRow, TS.ex, treeMode, AV.isOwn, TK.isSl, nilTk, nilsB, oLenQ, oLen, nodupB, treeOf, kidAbs, kidRows, TK.isCell, D.toL, oLoad, oStore, oMake, oIndexAddr, ↓reduceIte, reduceCtorEq, Nat.reduceBEq, Nat.reduceAdd, Nat.reduceMul, Nat.reduceLT, Nat.reduceSub, Nat.reduceLeDiff, Nat.reduceEqDiff, Nat.reduceBneDiff, Int.reduceToNat, decide_eq_true_eq, decide_eq_false_iff_not, beq_iff_eq, Int.toNat_natCast, loopK_normal, loopK_exit, loopK_ret]
              (repeat (refine And.intro ?_ ?_; focus (((repeat' apply And.intro) <;> first | exact rowsOf_w _ | omega | (simp only [List.length_append, rowsOf_len, List.length_cons, List.length_nil, marks_len, List.length_take, List.length_drop, List.length_set]; omega) | exact ⟨_, rfl⟩ | (refine ⟨_, rfl, ?_⟩; omega) | (refine ⟨_, rfl, ?_⟩; simp only [List.length_append, rowsOf_len, List.length_cons, List.length_nil, marks_len, List.length_take, List.length_drop, List.length_set]; omega) | kernel_rfl | (simp; done)); done)))
              exact ⟨_, [], rfl, ⟨⟨⟨rfl, rfl, rfl⟩, trivial⟩, trivial, by simp [rn, hpAt]⟩⟩
            · have d3 : (l[k - 1].p ≥ l[k].p) = False := eq_false q3
              simp (maxSteps := 3000000) only [Try.f9, go12a, g_l1In, erRows_len, rowsOf_len, hrow, hrow', hlt, hlt', h00, h01, d0, d1, d2, d3, v1, v2, w2, w3, List.append_eq, List.cons_append, List.nil_append, Bool.not_true, Bool.not_false, ↓reduceIte, Bool.false_eq_true, D.toI, D.toL, tYs, evL, implies_true, oMin, x_min3, oMin3, x_max, oMax, oCopy, oBin, oUn, oLoadKid, oStoreTree, oField, oExtract, oNil, oSliceQ, oSliceE, x_appendZ, oAppendZ, oSliceEnd, endMode, oLoadRow, takeCells, TS.atRow, TS.ex, treeMode, AV.isOwn, TK.isSl, nilTk, nilsB, oLenQ, oLen, nodupB, treeOf, kidAbs, kidRows, TK.isCell, D.toL, oLoad, oStore, oMake, oIndexAddr, ↓reduceIte, reduceCtorEq, Nat.reduceBEq, Nat.reduceAdd, Nat.reduceMul, Nat.reduceLT, Nat.reduceSub, Nat.reduceLeDiff, Nat.reduceEqDiff, Nat.reduceBneDiff, Int.reduceToNat, decide_eq_true_eq, decide_eq_false_iff_not, beq_iff_eq, Int.toNat_natCast, loopK_normal, loopK_exit, loopK_ret]
              (repeat (refine And.intro ?_ ?_; focus (((repeat' apply And.intro) <;> first | exact rowsOf_w _ | omega | (simp only [List.length_append, rowsOf_len, List.length_cons, List.length_nil, marks_len, List.length_take, List.length_drop, List.length_set]; omega) | exact ⟨_, rfl⟩ | (refine ⟨_, rfl, ?_⟩; omega) | (refine ⟨_, rfl, ?_⟩; simp only [List.length_append, rowsOf_len, List.length_cons, List.length_nil, marks_len, List.length_take, List.length_drop, List.length_set]; omega) | kernel_rfl | (simp; done)); done)))
              exact ⟨k + 1, [(0, some _)], ⟨by omega, eaK_next hk hinv (by show n < l[k].p; omega) q1' (fun _ => by show l[k - 1].p < l[k].p; omega)⟩, by omega, ⟨⟨trivial, ⟨rfl, rfl, rfl⟩, trivial, ⟨rfl, rfl, rfl⟩, fitT_rep _ _ rfl⟩, ⟨.inl rfl, rfl, rfl, rfl, trivial⟩, by simp [rn, hpAt]⟩, by simp [keepIds, rn]⟩
          · have d2 : ((k : Int) > 0) = False := eq_false (by omega)
            simp (maxSteps := 3000000) only [Try.f9, go12a, g_l1In, erRows_len, rowsOf_len, hrow, hlt, h00, d0, d1, d2, v1, v2, w2, List.append_eq, List.cons_append, List.nil_append, Bool.not_true, Bool.not_false, ↓reduceIte, Bool.false_eq_true, D.toI, D.toL, tYs, evL, implies_true, oMin, x_min3, oMin3, x_max, oMax, oCopy, oBin, oUn, oLoadKid, oStoreTree, oField, oExtract, oNil, oSliceQ, oSliceE, x_appendZ, oAppendZ, oSliceEnd, endMode, oLoadRow, takeCells, TS.atRow, TS.ex, treeMode, AV.isOwn, TK.isSl, nilTk, nilsB, oLenQ, oLen, nodupB, treeOf, kidAbs, kidRows, TK.isCell, D.toL, oLoad, oStore, oMake, oIndexAddr, ↓reduceIte, reduceCtorEq, Nat.reduceBEq, Nat.reduceAdd, Nat.reduceMul, Nat.reduceLT, Nat.reduceSub, Nat.reduceLeDiff, Nat.reduceEqDiff, Nat.reduceBneDiff, Int.reduceToNat, decide_eq_true_eq, decide_eq_false_iff_not, beq_iff_eq, Int.toNat_natCast, loopK_normal, loopK_exit, loopK_ret]
            (repeat (refine And.intro ?_ ?_; focus (((repeat' apply And.intro) <;> first | exact rowsOf_w _ | omega | (simp only [List.length_append, rowsOf_len, List.length_cons, List.length_nil, marks_len, List.length_take, List.length_drop, List.length_set]; omega) | exact ⟨_, rfl⟩ | (refine ⟨_, rfl, ?_⟩; omega) | (refine ⟨_, rfl, ?_⟩; simp only [List.length_append, rowsOf_len, List.length_cons, List.length_nil, marks_len, List.length_take, List.length_drop, List.length_set]; omega) | kernel_rfl | (simp; done)); done)))
            exact ⟨k + 1, [(0, some _)], ⟨by omega, eaK_next hk hinv (by show n < l[k].p; omega) q1' (fun h => absurd h q2)⟩, by omega, ⟨⟨trivial, ⟨rfl, rfl, rfl⟩, trivial, ⟨rfl, rfl, rfl⟩, fitT_rep _ _ rfl⟩, ⟨.inl rfl, rfl, rfl, rfl, trivial⟩, by simp [rn, hpAt]⟩, by simp [keepIds, rn]⟩
        · have hlt : ((k : Int) < (l.length : Int)) = False := eq_false (by omega)
          have e : eaB ⟨n, room, xs, l⟩ = true := eaB_iff.2 ⟨b0, b1, by show (xs.length : Int) ≤ room; omega, fun x hx => hinv.1 x (by rw [List.take_of_length_le (show l.length ≤ k by omega)]; exact hx), by have := hinv.2; rwa [List.take_of_length_le (show l.length ≤ k by omega)] at this⟩
          rw [e]
          simp (maxSteps := 3000000) only [Try.f9, go12a, g_l1In, erRows_len, rowsOf_len, hlt, w2, List.append_eq, List.cons_append, List.nil_append, Bool.not_true, Bool.not_false, ↓reduceIte, Bool.false_eq_true, D.toI, D.toL, tYs, evL, implies_true, oMin, x_min3, oMin3, x_max, oMax, oCopy, oBin, oUn, oLoadKid, oStoreTree, oField, oExtract, oNil, oSliceQ, oSliceE, x_appendZ, oAppendZ, oSliceEnd, endMode, oLoadRow, takeCells, TS.atRow, TS.ex, treeMode, AV.isOwn, TK.isSl, nilTk, nilsB, oLenQ, oLen, nodupB, treeOf, kidAbs, kidRows, TK.isCell, D.toL, oLoad, oStore, oMake, oIndexAddr, ↓reduceIte, reduceCtorEq, Nat.reduceBEq, Nat.reduceAdd, Nat.reduceMul, Nat.reduceLT, Nat.reduceSub, Nat.reduceLeDiff, Nat.reduceEqDiff, Nat.reduceBneDiff, Int.reduceToNat, decide_eq_true_eq, decide_eq_false_iff_not, beq_iff_eq, Int.toNat_natCast, loopK_normal, loopK_exit, loopK_ret]
          exact ⟨_, [], rfl, ⟨⟨⟨rfl, rfl, rfl⟩, trivial⟩, trivial, by simp [rn, hpAt]⟩⟩
  · cases hg
def go12b : List (FuncId × Abs) := [(9, pureAbs g_earOk)]
theorem go12b_ok : ∀ p ∈ go12b, CallOk Try.prog p.1 p.2 := by
  intro p hp
  simp only [go12b, List.mem_cons, List.not_mem_nil, or_false] at hp
  rcases hp with rfl
  · exact specEarOk_ok.call
set_option maxRecDepth 100000 in
theorem specEarFree_ok : PureOk Try.prog 13 g_earFree := by
  refine PureOk.of_vc (G := go12b) go12b_ok mixed Try.func13 (by kernel_rfl) rfl ?_
  intro args cnd r bs hg hc
  unfold g_earFree at hg
  split at hg
  · rename_i n room sg rg sf rf
    cases hg
    obtain ⟨⟨xs, rfl, hx⟩, l, rfl, hl⟩ := hc
    rw [bytesOf_rows, ersOf_rows]
    refine ⟨⟨rfl, by simp, by simp [AV.ids, AV.ids.idsL]⟩, [.agg [.v (.int .i64 n), .v (.int .i64 room), .l 1 (rowsOfBytes xs), .l 2 (erRows l)]], rfl, fun w vs h => CvL.ok (.cons (.cons (.refl _) (.cons (.refl _) (.cons (.l _ _ _ (rowsOf_w xs)) (.cons (.l _ _ _ (erRows_w l)) .nil)))) .nil) h, ?_⟩
    rcases h0 : eaB ⟨n, room, xs, l⟩ with _ | _
    · rw [if_neg (by decide)]
      simp (maxSteps := 3000000) only [Try.f13, go12b, g_earOk, erRows_len, rowsOf_len, ersOf_rows, bytesOf_rows, h0, List.append_eq, List.cons_append, List.nil_append, Bool.not_true, Bool.not_false, ↓reduceIte, Bool.false_eq_true, tYs, evL, implies_true, oMin, x_min3, oMin3, x_max, oMax, oCopy, oBin, oUn, oLoadKid, oStoreTree, oField, oExtract, oNil, oSliceQ, oSliceE, x_appendZ, oAppendZ, oSliceEnd, endMode, oLoadRow, takeCells, TS.atRow, TS.ex, treeMode, AV.isOwn, TK.isSl, nilTk, nilsB, oLenQ, oLen, nodupB, treeOf, kidAbs, kidRows, TK.isCell, D.toL, oLoad, oStore, oMake, oIndexAddr, ↓reduceIte, reduceCtorEq, Nat.reduceBEq, Nat.reduceAdd, Nat.reduceMul, Nat.reduceLT, Nat.reduceSub, Nat.reduceLeDiff, Nat.reduceEqDiff, Nat.reduceBneDiff, Int.reduceToNat, decide_eq_true_eq, decide_eq_false_iff_not, beq_iff_eq, Int.toNat_natCast, loopK_normal, loopK_exit, loopK_ret]
      refine ⟨⟨⟨xs, rfl, hx⟩, l, rfl, hl⟩, ?_⟩
      exact ⟨_, [], rfl, ⟨⟨⟨rfl, rfl, rfl⟩, trivial⟩, trivial, by simp [rn, hpAt]⟩⟩
    · rw [if_pos rfl]
      obtain ⟨b0, b1, b2, _⟩ := eaB_iff.1 h0
      dsimp only at b0 b1 b2
      have v1 : IntKind.i64.wrap (room - (xs.length : Int)) = room - (xs.length : Int) := wrap_id (by omega) (by omega)
      simp (maxSteps := 3000000) only [Try.f13, go12b, g_earOk, erRows_len, rowsOf_len, ersOf_rows, bytesOf_rows, h0, v1, List.append_eq, List.cons_append, List.nil_append, Bool.not_true, Bool.not_false, ↓reduceIte, Bool.false_eq_true, tYs, evL, implies_true, oMin, x_min3, oMin3, x_max, oMax, oCopy, oBin, oUn, oLoadKid, oStoreTree, oField, oExtract, oNil, oSliceQ, oSliceE, x_appendZ, oAppendZ, oSliceEnd, endMode, oLoadRow, takeCells, TS.atRow, TS.ex, treeMode, AV.isOwn, TK.isSl, nilTk, nilsB, oLenQ, oLen, nodupB, treeOf, kidAbs, kidRows, TK.isCell, D.toL, oLoad, oStore, oMake, oIndexAddr, ↓reduceIte, reduceCtorEq, Nat.reduceBEq, Nat.reduceAdd, Nat.reduceMul, Nat.reduceLT, Nat.reduceSub, Nat.reduceLeDiff, Nat.reduceEqDiff, Nat.reduceBneDiff, Int.reduceToNat, decide_eq_true_eq, decide_eq_false_iff_not, beq_iff_eq, Int.toNat_natCast, loopK_normal, loopK_exit, loopK_ret]
      refine ⟨⟨⟨xs, rfl, hx⟩, l, rfl, hl⟩, ?_⟩
      exact ⟨_, [], rfl, ⟨⟨⟨rfl, rfl, rfl⟩, trivial⟩, trivial, by simp [rn, hpAt]⟩⟩
  · cases hg
end Go.Proofs.Ytkfjaeoehhakpaa
