import Derived.Test.YtloffpgdclbkhaaTc
set_option linter.unusedVariables false
set_option linter.unusedSimpArgs false
namespace Go.Proofs.Ytloffpgdclbkhaa
open Go.RowKit
set_option linter.unusedSimpArgs false

/-! chapter 4: packets -/
def g_sumFits : PC := fun args => match args with
  | [.l _ rows, .v (.int .i64 s)] => some (∃ xs, rows = rowsOfBytes xs ∧ xs.length ≤ 140737488355328, .v (.bool (fits (bytesOfRows rows) s)), [])
  | _ => none
def g_sumTurned : PC := fun args => match args with
  | [.v (.int .i64 s), .v (.int .i64 a), .v (.int .i64 b)] => some (True, .v (.int .i64 (sTurn s a b)), [])
  | _ => none
/-- what a packet must be -/
def pkR (f t p h i a : Int) (n : Nat) : Bool := decide (((0 ≤ f ∧ f ≤ 65535) ∧ (0 ≤ t ∧ t ≤ 65535)) ∧ (0 ≤ p ∧ p ≤ 255) ∧ (0 ≤ h ∧ h ≤ 255) ∧ (0 ≤ i ∧ i ≤ 255) ∧ (0 ≤ a ∧ a ≤ 255) ∧ n ≤ 48)
def pkM (a : Int) (m u : Bool) (n : Nat) : Bool := (!m || decide (0 < n)) && (!u || (decide (a = 0) && !m))
def pkB (f t p h i a : Int) (m u : Bool) (n : Nat) : Bool := pkR f t p h i a n && pkM a m u n
/-- the number of its marks -/
def pkK (m u : Bool) : Int := (if m = true then 1 else 0) + (if u = true then 2 else 0)
def g_pkR : PC := fun args => match args with
  | [.agg [.v (.int .i64 f), .v (.int .i64 t), .v (.int .i64 p), .v (.int .i64 h), .v (.int .i64 i), .v (.int .i64 a), .v (.bool m), .v (.bool u), .l _ rows]] => some (True, .v (.bool (pkR f t p h i a rows.length)), [])
  | _ => none
def g_pkM : PC := fun args => match args with
  | [.agg [.v (.int .i64 f), .v (.int .i64 t), .v (.int .i64 p), .v (.int .i64 h), .v (.int .i64 i), .v (.int .i64 a), .v (.bool m), .v (.bool u), .l _ rows]] => some (True, .v (.bool (pkM a m u rows.length)), [])
  | _ => none
def g_packetOk : PC := fun args => match args with
  | [.agg [.v (.int .i64 f), .v (.int .i64 t), .v (.int .i64 p), .v (.int .i64 h), .v (.int .i64 i), .v (.int .i64 a), .v (.bool m), .v (.bool u), .l _ rows]] => some (True, .v (.bool (pkB f t p h i a m u rows.length)), [])
  | _ => none
def g_pkKs : PC := fun args => match args with
  | [.agg [.v (.int .i64 f), .v (.int .i64 t), .v (.int .i64 p), .v (.int .i64 h), .v (.int .i64 i), .v (.int .i64 a), .v (.bool m), .v (.bool u), .l _ rows]] => some (True, .v (.int .i64 (pkK m u)), [])
  | _ => none
def g_pkKi : PC := fun args => match args with
  | [.agg [.v (.int .i64 f), .v (.int .i64 t), .v (.int .i64 p), .v (.int .i64 h), .v (.int .i64 i), .v (.int .i64 a), .v (.bool m), .v (.bool u), .l _ rows]] => some (True, .v (.int .u8 (pkK m u)), [])
  | _ => none
def pk1 : List (FuncId × Abs) := [(77, pureAbs g_isPair), (45, pureAbs g_isByte), (41, pureAbs g_l1In)]
theorem pk1_ok : ∀ p ∈ pk1, CallOk Try.prog p.1 p.2 := by
  intro p hp
  simp only [pk1, List.mem_cons, List.not_mem_nil, or_false] at hp
  rcases hp with rfl | rfl | rfl
  · exact isAddr_ok.call
  · exact isByte_ok.call
  · exact l1In_ok.call
set_option maxRecDepth 100000 in
theorem packetInRange_ok : PureOk Try.prog 68 g_pkR := by
  refine PureOk.of_vc (G := pk1) pk1_ok mixed Try.func68 (by kernel_rfl) rfl ?_
  intro args cnd r bs hg hc
  unfold g_pkR at hg
  split at hg
  · rename_i f t p h i a m u sz rows
    cases hg
    refine ⟨⟨rfl, by simp, by simp [AV.ids]⟩, _, rfl, fun w vs h => h, ?_⟩
    simp (maxSteps := 3000000) only [Try.f68, pk1, g_isPair, g_isByte, tY3, tY22, tY29, Try.underlying22, e_ret, e_seq, e_region, seqK_normal, regK_false, e_nil, e_cons, gateK_go, gateK_ask, pickK_some, exK_some, x_pick, x_move, x_assign, x_box, x_load, x_binOp, x_fieldAddr, x_call, x_len, callK_some, done_ret, gate_none, gate_some, gateS_some, gateV_bool, boolOf, evA, putT, refn, fpD, oBin, upsl, upl, lk, dstsOf, resL, resA, packA, oLoadQ, isTrP, oLoad, oBox, oFieldAddr, oLen, lenOf, nilV, AV.cells, AV.one, Value.oneCell', pureAbs, nrm, hpAt, AV.ren, List.find?_cons, Nat.reduceBEq, beq_self_eq_true, List.map_cons, List.map_nil, List.getD_cons_zero, List.getD_cons_succ, List.set_cons_zero, List.set_cons_succ, List.length_cons, List.length_nil, List.replicate, List.cons_append, List.nil_append, List.getElem?_cons_zero, List.getElem?_cons_succ, List.all_nil, List.all_cons, Bool.and_self, true_and, ↓reduceIte, Bool.false_eq_true, Bool.not_true, decide_true, Nat.reduceAdd, Nat.reduceMul, Nat.reduceSub, eq_self, reduceCtorEq, Nat.zero_lt_succ, Nat.zero_le]
    repeat' split
    all_goals (refine ⟨_, [], rfl, ⟨⟨⟨?_, rfl, rfl⟩, trivial⟩, by simp [fitH], by simp []⟩⟩; refine congrArg (fun b => AV.v (Value.bool b)) ?_; first | rfl | (rw [Bool.eq_iff_iff]; simp only [pkR, decide_eq_true_eq, inZ, Bool.false_eq_true, false_iff] at *; first | done | omega))
  · cases hg
set_option maxRecDepth 100000 in
theorem packetMarksOk_ok : PureOk Try.prog 69 g_pkM := by
  refine PureOk.of_vc (G := []) (by simp) mixed Try.func69 (by kernel_rfl) rfl ?_
  intro args cnd r bs hg hc
  unfold g_pkM at hg
  split at hg
  · rename_i f t p h i a m u sz rows
    cases hg
    refine ⟨⟨rfl, by simp, by simp [AV.ids]⟩, _, rfl, fun w vs h => h, ?_⟩
    cases m <;> cases u
    all_goals
      simp (maxSteps := 3000000) only [Try.f69, tY3, tY4, tY22, tY29, Try.underlying22, e_skip, e_ret, e_seq, e_cond, e_region, seqK_normal, seqK_ret, condK_some, regK_false, e_nil, e_cons, gateK_go, gateK_skip, gateK_ask, pickK_some, exK_some, x_pick, x_move, x_assign, x_box, x_load, x_binOp, x_unOp, x_fieldAddr, x_len, done_ret, gate_none, gate_some, gateS_some, gateV_bool, gateV_undef, boolOf, evA, putT, refn, fpD, oBin, oUn, upsl, upl, lk, dstsOf, resL, resA, packA, oLoadQ, isTrP, oLoad, oBox, oFieldAddr, oLen, lenOf, AV.cells, AV.one, Value.oneCell', hpAt, List.map_cons, List.map_nil, List.getD_cons_zero, List.getD_cons_succ, List.set_cons_zero, List.set_cons_succ, List.length_cons, List.length_nil, List.replicate, List.cons_append, List.nil_append, List.getElem?_cons_zero, List.getElem?_cons_succ, List.all_nil, List.all_cons, Bool.and_self, true_and, ↓reduceIte, Bool.false_eq_true, Bool.true_eq_false, Bool.not_true, Bool.not_false, decide_true, Nat.reduceAdd, Nat.reduceMul, Nat.reduceSub, eq_self, reduceCtorEq, Nat.zero_lt_succ, beq_iff_eq]
      repeat' split
    all_goals (refine ⟨_, [], rfl, ⟨⟨⟨?_, rfl, rfl⟩, trivial⟩, by simp [fitH], by simp []⟩⟩; refine congrArg (fun b => AV.v (Value.bool b)) ?_; first | rfl | (rw [Bool.eq_iff_iff]; simp only [pkM, decide_eq_true_eq, Bool.and_true, Bool.and_false, Bool.true_and, Bool.true_or, Bool.false_or, Bool.or_false, Bool.false_eq_true, Bool.not_true, Bool.not_false, false_iff, true_iff] at *; first | done | omega))
  · cases hg
def pk2 : List (FuncId × Abs) := [(68, pureAbs g_pkR), (69, pureAbs g_pkM), (41, pureAbs g_l1In)]
theorem pk2_ok : ∀ p ∈ pk2, CallOk Try.prog p.1 p.2 := by
  intro p hp
  simp only [pk2, List.mem_cons, List.not_mem_nil, or_false] at hp
  rcases hp with rfl | rfl | rfl
  · exact packetInRange_ok.call
  · exact packetMarksOk_ok.call
  · exact l1In_ok.call
set_option maxRecDepth 100000 in
theorem implPacketOk_ok : PureOk Try.prog 43 g_packetOk := by
  refine PureOk.of_vc (G := pk2) pk2_ok mixed Try.func43 (by kernel_rfl) rfl ?_
  intro args cnd r bs hg hc
  unfold g_packetOk at hg
  split at hg
  · rename_i f t p h i a m u sz rows
    cases hg
    refine ⟨⟨rfl, by simp, by simp [AV.ids]⟩, _, rfl, fun w vs h => h, ?_⟩
    simp (maxSteps := 3000000) only [Try.f43, pk2, g_pkR, g_pkM, tY29, e_ret, e_seq, e_region, seqK_normal, regK_false, e_nil, e_cons, gateK_go, gateK_ask, pickK_some, exK_some, x_pick, x_move, x_assign, x_box, x_load, x_call, callK_some, done_ret, gate_none, gate_some, gateS_some, gateV_bool, boolOf, evA, putT, refn, fpD, upsl, upl, lk, dstsOf, resL, resA, packA, oLoadQ, isTrP, oLoad, oBox, nilV, AV.cells, AV.one, Value.oneCell', pureAbs, nrm, nrm.nrmL, hpAt, AV.ren, List.find?_cons, Nat.reduceBEq, beq_self_eq_true, List.map_cons, List.map_nil, List.getD_cons_zero, List.getD_cons_succ, List.set_cons_zero, List.set_cons_succ, List.length_cons, List.length_nil, List.replicate, List.cons_append, List.nil_append, List.take_succ_cons, List.take_nil, List.drop_zero, List.all_nil, List.all_cons, Bool.and_self, true_and, ↓reduceIte, Bool.false_eq_true, Bool.not_true, decide_true, Nat.reduceAdd, Nat.reduceMul, Nat.reduceSub, Nat.reduceLeDiff, eq_self, Nat.zero_lt_succ, Nat.zero_le]
    rcases hr : pkR f t p h i a rows.length with _ | _ <;> rcases hm : pkM a m u rows.length with _ | _
    all_goals simp only [pkB, hr, hm, if_true, if_false, Bool.false_eq_true, Bool.and_true, Bool.and_false]
    all_goals (refine ⟨_, [], rfl, ⟨⟨⟨?_, rfl, rfl⟩, trivial⟩, by simp [fitH], by simp []⟩⟩; refine congrArg (fun b => AV.v (Value.bool b)) ?_; first | rfl | (rw [Bool.eq_iff_iff]; simp only [decide_eq_true_eq, frB, inZ, Bool.false_eq_true, beq_eq_false_iff_ne, beq_iff_eq, ne_eq, decide_eq_false_iff_not, Bool.not_eq_eq_eq_not, Bool.not_true, Bool.not_false, false_iff, iff_false, true_iff, iff_true] at *; omega))
  · cases hg
set_option maxHeartbeats 0 in
set_option maxRecDepth 100000 in
theorem specPacketOk_ok : PureOk Try.prog 40 g_packetOk := by
  refine PureOk.of_vc (G := pk2) pk2_ok mixed Try.func40 (by kernel_rfl) rfl ?_
  intro args cnd r bs hg hc
  unfold g_packetOk at hg
  split at hg
  · rename_i f t p h i a m u sz rows
    cases hg
    refine ⟨⟨rfl, by simp, by simp [AV.ids]⟩, _, rfl, fun w vs h => h, ?_⟩
    cases m <;> cases u
    all_goals
      simp (maxSteps := 3000000) only [Try.f40, pk2, g_l1In, tY3, tY4, tY22, tY29, Try.underlying22, e_skip, e_ret, e_seq, e_cond, e_region, seqK_normal, seqK_ret, condK_some, regK_false, e_nil, e_cons, gateK_go, gateK_skip, gateK_ask, pickK_some, exK_some, x_pick, x_move, x_assign, x_box, x_load, x_binOp, x_unOp, x_fieldAddr, x_call, x_len, callK_some, done_ret, gate_none, gate_some, gateS_some, gateV_bool, gateV_undef, boolOf, evA, putT, refn, fpD, oBin, oUn, upsl, upl, lk, dstsOf, resL, resA, packA, oLoadQ, isTrP, oLoad, oBox, oFieldAddr, oLen, lenOf, nilV, AV.cells, AV.one, Value.oneCell', pureAbs, nrm, hpAt, AV.ren, List.find?_cons, Nat.reduceBEq, beq_self_eq_true, List.map_cons, List.map_nil, List.getD_cons_zero, List.getD_cons_succ, List.set_cons_zero, List.set_cons_succ, List.length_cons, List.length_nil, List.replicate, List.cons_append, List.nil_append, List.getElem?_cons_zero, List.getElem?_cons_succ, List.all_nil, List.all_cons, Bool.and_self, true_and, ↓reduceIte, Bool.false_eq_true, Bool.true_eq_false, Bool.not_true, Bool.not_false, decide_true, Nat.reduceAdd, Nat.reduceMul, Nat.reduceSub, eq_self, reduceCtorEq, Nat.zero_lt_succ, Nat.zero_le, decide_eq_true_eq, beq_iff_eq]
      repeat' split
    all_goals (refine ⟨_, [], rfl, ⟨⟨⟨?_, rfl, rfl⟩, trivial⟩, by simp [fitH], by simp []⟩⟩; refine congrArg (fun b => AV.v (Value.bool b)) ?_; first | rfl | (rw [Bool.eq_iff_iff]; simp only [pkB, pkR, pkM, decide_eq_true_eq, inZ, Bool.and_eq_true, Bool.and_true, Bool.and_false, Bool.true_and, Bool.true_or, Bool.false_or, Bool.or_false, Bool.false_eq_true, decide_eq_false_iff_not, Bool.not_eq_eq_eq_not, Bool.not_true, Bool.not_false, false_iff, true_iff] at *; first | done | omega))
  · cases hg
end Go.Proofs.Ytloffpgdclbkhaa
