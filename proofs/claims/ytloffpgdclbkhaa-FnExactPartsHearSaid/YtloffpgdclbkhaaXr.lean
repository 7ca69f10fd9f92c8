import Derived.Test.YtloffpgdclbkhaaXo
import Derived.Test.YtloffpgdclbkhaaXk
import Derived.Test.YtloffpgdclbkhaaXh
import Derived.Test.YtloffpgdclbkhaaXi
namespace Go.Proofs.Ytloffpgdclbkhaa
open Go.RowKit
set_option linter.unusedSimpArgs false
set_option linter.unusedVariables false

/-! marks in parts; the exact laws of PacketCut, PartWhole and PartPut -/
def g_markPart : OC := fun args B0 => match args, B0 with
  | [.agg [.own r, .v (.int .i64 u)], .v (.int .i64 c)], [.tr .whole T sz cols rows] => some (r = 0 ∧ T = 29 ∧ sz = 9 ∧ cols = [.cell, .cell, .cell, .cell, .cell, .cell, .cell, .cell, .sl 5 1 [.cell]] ∧ (∃ ps, rows = pRows ps ∧ ps.length ≤ 1048576 ∧ sumN ps ≤ 1048576) ∧ 0 ≤ c ∧ c ≤ 549755813888,
      .v (.int .i64 (mkC (psOf rows) c.toNat : Nat)), [.tr .whole T sz cols (pRows (mkL (psOf rows) c.toNat))], [])
  | _, _ => none
def g_heldPart : PC := fun args => match args with
  | [.agg [.l _ rows, .v (.int .i64 u)], .v (.int .i64 c)] => some ((∃ ps, rows = pRows (mkL ps c.toNat) ∧ ps.length ≤ 1048576 ∧ sumN ps ≤ 1048576) ∧ 0 ≤ c ∧ c ≤ 549755813888, .v (.int .i64 (mkC (psOf rows) c.toNat : Nat)), [])
  | _ => none
def mkp : List (FuncId × Abs) := [(16, ownAbs g_markPacketS), (17, pureAbs g_heldPacketS)]
theorem whole_len (ps : List Pk) (u : Int) : (wholeV ps u).d.length ≤ 48 := by
  rw [wholeV]
  split
  · rename_i h
    simp only [wholeB, Bool.and_eq_true] at h
    rw [joinD_len]
    exact (partB_all h.1).2.1
  · exact Nat.zero_le _
def g_xc1 : PC := fun args => match args with
  | [.agg [.v (.int .i64 f), .v (.int .i64 t), .v (.int .i64 p), .v (.int .i64 h), .v (.int .i64 i), .v (.int .i64 a), .v (.bool m), .v (.bool u), .l _ rows], .v (.int .i64 l)] => some (rows.length ≤ 9223372036854775807 ∧ ∃ xs, rows = rowsOfBytes xs, .v (.bool true), [])
  | _ => none
def g_xc2 : PC := fun args => match args with
  | [.agg [.l _ rows', .v (.int .i64 n)], .agg [.v (.int .i64 f), .v (.int .i64 t), .v (.int .i64 p), .v (.int .i64 h), .v (.int .i64 i), .v (.int .i64 a), .v (.bool m), .v (.bool u), .l _ rows]] => some ((∃ ps, rows' = pRows ps ∧ pFin ps) ∧ rows.length ≤ 9223372036854775807 ∧ ∃ xs, rows = rowsOfBytes xs, .v (.bool true), [])
  | _ => none
def xpc : List (FuncId × Abs) := [(9, pureAbs g_szPacket), (11, pureAbs g_toPacket), (14, pureAbs g_eqPacket), (15, ownAbs g_markPacket), (26, pureAbs g_heldPacket), (13, pureAbs g_eqPacketS), (16, ownAbs g_markPacketS), (17, pureAbs g_heldPacketS), (10, frzAbs g_sPacketCut), (12, pureAbs g_packetCut)]
def xpw : List (FuncId × Abs) := [(9, pureAbs g_szPacket), (11, pureAbs g_toPacket), (14, pureAbs g_eqPacket), (15, ownAbs g_markPacket), (26, pureAbs g_heldPacket), (13, pureAbs g_eqPacketS), (16, ownAbs g_markPacketS), (17, pureAbs g_heldPacketS), (18, pureAbs g_szPart), (20, pureAbs g_toPart), (22, pureAbs g_eqPart), (25, ownAbs g_markPart), (29, pureAbs g_heldPart), (23, pureAbs g_partWhole), (24, pureAbs g_partWhole)]
def xpp : List (FuncId × Abs) := [(9, pureAbs g_szPacket), (11, pureAbs g_toPacket), (14, pureAbs g_eqPacket), (15, ownAbs g_markPacket), (26, pureAbs g_heldPacket), (13, pureAbs g_eqPacketS), (16, ownAbs g_markPacketS), (17, pureAbs g_heldPacketS), (18, pureAbs g_szPart), (20, pureAbs g_toPart), (22, pureAbs g_eqPart), (25, ownAbs g_markPart), (29, pureAbs g_heldPart), (27, pureAbs g_partPut), (28, pureAbs g_partPut)]
end Go.Proofs.Ytloffpgdclbkhaa

namespace Go.Proofs.Ytloffpgdclbkhaa
open Go.RowKit
set_option linter.unusedSimpArgs false
set_option linter.unusedVariables false

/-! marks in lists of parts -/
def sumT (l : List Pt) : Nat := (l.map fun x => x.ps.length * 8 + sumN x.ps).sum
def ptMk (x : Pt) (c : Nat) : Pt := ⟨mkL x.ps c, ((mkC x.ps c : Nat) : Int)⟩
def ptC : List Pt → Nat → Nat
  | [], c => c
  | x :: t, c => ptC t (mkC x.ps c + 1)
def ptL : List Pt → Nat → List Pt
  | [], _ => []
  | x :: t, c => ptMk x c :: ptL t (mkC x.ps c + 1)
theorem ptC_app : ∀ (a b : List Pt) (c : Nat), ptC (a ++ b) c = ptC b (ptC a c)
  | [], _, _ => rfl
  | x :: a, b, c => ptC_app a b _
theorem ptL_app : ∀ (a b : List Pt) (c : Nat), ptL (a ++ b) c = ptL a c ++ ptL b (ptC a c)
  | [], _, _ => rfl
  | x :: a, b, c => by simp only [List.cons_append, ptL, ptC, ptL_app a b]
theorem ptL_len : ∀ (a : List Pt) (c : Nat), (ptL a c).length = a.length
  | [], c => rfl
  | x :: a, c => by simp only [ptL, List.length_cons, ptL_len a]
theorem ptC_eq : ∀ (a : List Pt) (c : Nat), ptC a c = c + a.length + sumT a
  | [], c => by simp [ptC, sumT]
  | x :: a, c => by
    rw [ptC, ptC_eq a, mkC_eq]
    simp only [sumT, List.map_cons, List.sum_cons, List.length_cons]
    omega
theorem sumT_mem {x : Pt} : ∀ {l : List Pt}, x ∈ l → x.ps.length * 8 + sumN x.ps ≤ sumT l
  | [], h => by cases h
  | y :: l, h => by
    rw [sumT, List.map_cons, List.sum_cons, ← sumT]
    rcases List.mem_cons.1 h with rfl | h
    · omega
    · have := sumT_mem h
      omega
theorem sumT_app (a b : List Pt) : sumT (a ++ b) = sumT a + sumT b := by simp [sumT]
theorem sumT_take (l : List Pt) (k : Nat) : sumT (l.take k) ≤ sumT l := by
  conv => rhs; rw [← List.take_append_drop k l, sumT_app]
  omega
def ptO (l : List Pt) (c k : Nat) : List Pt := ptL (l.take k) c ++ l.drop k
theorem ptO_len (l : List Pt) (c k : Nat) : (ptO l c k).length = l.length := by
  rw [ptO, List.length_append, ptL_len, ← List.length_append, List.take_append_drop]
theorem ptO_at {l : List Pt} {c k : Nat} (h : k < l.length) : (ptO l c k)[k]? = some l[k] := by
  have e : (ptL (l.take k) c).length = k := by rw [ptL_len, List.length_take]; omega
  rw [ptO, List.getElem?_append_right (by omega), e, Nat.sub_self, List.getElem?_drop, Nat.add_zero, List.getElem?_eq_getElem h]
theorem ptO_set {l : List Pt} {c k : Nat} (h : k < l.length) : (ptO l c k).set k (ptMk l[k] (ptC (l.take k) c)) = ptO l c (k + 1) := by
  have e : (ptL (l.take k) c).length = k := by rw [ptL_len, List.length_take]; omega
  rw [ptO, ptO, List.set_append_right _ _ (by omega), e, Nat.sub_self, List.drop_eq_getElem_cons h, List.set_cons_zero, List.take_add_one, List.getElem?_eq_getElem h, ptL_app]
  simp [ptL]
theorem ptC_next {l : List Pt} {c k : Nat} (h : k < l.length) : ptC (l.take (k + 1)) c = mkC l[k].ps (ptC (l.take k) c) + 1 := by
  rw [List.take_add_one, List.getElem?_eq_getElem h, ptC_app]; rfl
theorem ptRows_setQ (l : List Pt) (k : Nat) (x : Pt) : (ptRows l).set k [D.l 9 (pRows x.ps), D.v (.int .i64 x.u)] = ptRows (l.set k x) := by
  rw [ptRows, ptRows, List.map_set]; rfl
theorem ptRows_at {l : List Pt} {k : Nat} {x : Pt} (h : l[k]? = some x) : (ptRows l).getD k [] = [D.l 9 (pRows x.ps), D.v (.int .i64 x.u)] := by
  rw [List.getD_eq_getElem?_getD, ptRows, List.getElem?_map, h]; rfl
def g_markPartS : OC := fun args B0 => match args, B0 with
  | [.own r, .v (.int .i64 c)], [.tr .whole T sz cols rows] => some (r = 0 ∧ T = 42 ∧ sz = 2 ∧ cols = [.sl 29 9 [.cell, .cell, .cell, .cell, .cell, .cell, .cell, .cell, .sl 5 1 [.cell]], .cell] ∧ (∃ l, rows = ptRows l ∧ l.length ≤ 1048577 ∧ sumT l ≤ 67108864 ∧ ∀ x ∈ l, x.ps.length ≤ 1048576 ∧ sumN x.ps ≤ 1048576) ∧ 0 ≤ c ∧ c ≤ 274877906944,
      .v (.int .i64 (ptC (ptsOf rows) c.toNat : Nat)), [.tr .whole T sz cols (ptRows (ptL (ptsOf rows) c.toNat))], [])
  | [.sub r lo hi, .v (.int .i64 c)], [.tr .whole T sz cols rows] => some (r = 0 ∧ T = 42 ∧ sz = 2 ∧ cols = [.sl 29 9 [.cell, .cell, .cell, .cell, .cell, .cell, .cell, .cell, .sl 5 1 [.cell]], .cell] ∧ (∃ l, rows = ptRows l ∧ l.length ≤ 1048577 ∧ sumT l ≤ 67108864 ∧ (∀ x ∈ l, x.ps.length ≤ 1048576 ∧ sumN x.ps ≤ 1048576) ∧ lo ≤ l.length ∧ hi = l.length) ∧ 0 ≤ c ∧ c ≤ 274877906944,
      .v (.int .i64 (ptC ((ptsOf rows).drop lo) c.toNat : Nat)), [.tr .whole T sz cols (ptRows ((ptsOf rows).take lo ++ ptL ((ptsOf rows).drop lo) c.toNat))], [])
  | _, _ => none
def mpg : List (FuncId × Abs) := [(16, kidAbs g_markPacketS)]
theorem mpg_ok : ∀ p ∈ mpg, CallOk Try.prog p.1 p.2 := by
  intro p hp
  simp only [mpg, List.mem_cons, List.not_mem_nil, or_false] at hp
  rcases hp with rfl
  exact markPacketS_ok.callK
set_option maxHeartbeats 4000000 in
set_option maxRecDepth 100000 in
theorem markPartS_ok : OwnOk Try.prog 37 g_markPartS := by
  refine OwnOk.of_vc (G := mpg) mpg_ok mixed Try.func37 (by kernel_rfl) rfl ?_
  intro args B0 cnd r B1 bs hg hc hlive
  unfold g_markPartS at hg
  split at hg
  · rename_i r c T sz cols rows
    cases hg
    obtain ⟨rfl, rfl, rfl, rfl, ⟨l, rfl, hn, hsm, hb⟩, hc0, hc1⟩ := hc
    rw [ptsOf_rows]
    obtain ⟨c, rfl⟩ : ∃ n : Nat, c = (n : Int) := ⟨c.toNat, by omega⟩
    rw [Int.toNat_natCast]
    refine ⟨⟨by simp [likeBs, likeB, ptRows_len, ptL_len], by simp [Blk.liveB, blkIds], by simp [AV.ids]⟩, _, rfl, fun w Z s vs h => h, ?_⟩
    clear hlive
    simp (maxSteps := 3000000) only [Try.f37, mpg, e_seq, e_block, e_region, seqK_normal, regK_false, e_nil, e_cons, gateK_go, exK_some, x_assign, gate_none, evA, putT, fpD, upsl, dstsOf, hpAt, List.map_cons, List.map_nil, List.set_cons_zero, List.set_cons_succ, List.length_cons, List.length_nil, List.replicate, List.cons_append, List.nil_append, List.append_nil, List.all_nil, true_and, ↓reduceIte, Bool.false_eq_true, Nat.reduceAdd, Nat.reduceMul, Nat.reduceSub, eq_self]
    refine e_loop _ _ _ _ _ _ _ _ (fun k : Nat => [.own 0, .v (.int .i64 (ptC (l.take k) c : Nat)), .any, .any, .any, .v (.int .i64 (k : Int))] ++ List.replicate (Try.f37.ntmps - 6) .any) (fun k => [(0, .tr .whole 42 2 [.sl 29 9 [.cell, .cell, .cell, .cell, .cell, .cell, .cell, .cell, .sl 5 1 [.cell]], .cell] (ptRows (ptO l c k)))]) (fun k => k ≤ l.length) (fun k => l.length - k) 1 (fun k => by simp) ?_ fun k hk' => ?_
    · exact ⟨0, [(0, some 0)], Nat.zero_le _, ⟨⟨⟨rfl, rfl, rfl⟩, ⟨rfl, rfl, rfl⟩, trivial, trivial, trivial, ⟨rfl, rfl, rfl⟩, fitT_rep _ _ rfl⟩, ⟨.inl rfl, rfl, rfl, rfl, trivial⟩, by simp [rn]⟩, by simp [keepIds, rn]⟩
    have w2 : IntKind.i64.wrap ((k : Int) + 1) = ((k + 1 : Nat) : Int) := by rw [wrap_id] <;> omega
    have hsl : (ptRows (ptO l c k)).length = l.length := by rw [ptRows_len, ptO_len]
    by_cases hk : k < l.length
    · have hlt : ((k : Int) < (l.length : Int)) = True := eq_true (by omega)
      have h0 : (0 ≤ (k : Int)) = True := eq_true (by omega)
      have hat : (ptO l c k)[k]? = some l[k] := by
        exact ptO_at hk
      have hrw := ptRows_at hat
      have hset : ∀ r : List D, ((ptRows (ptO l c k)).set (k) r).getD (k) [] = r := fun r => set_getD (by rw [hsl]; omega) r []
      have hCe := ptC_eq (l.take k) c
      have hsk := sumT_mem (List.getElem_mem hk)
      have hCl := sumT_take l k
      have hCt : (l.take k).length = k := by rw [List.length_take]; omega
      rw [hCt] at hCe
      have hCn := ptC_next (c := c) hk
      have hms := ptO_set (c := c) hk
      obtain ⟨C, hC⟩ : ∃ C, ptC (l.take k) c = C := ⟨_, rfl⟩
      rw [hC] at hCe hCn hms ⊢
      have hmk := mkC_eq l[k].ps C
      have wc1 : IntKind.i64.wrap (((mkC l[k].ps C : Nat) : Int) + 1) = ((mkC l[k].ps C + 1 : Nat) : Int) := by rw [wrap_id] <;> omega
      have hex : (∃ ps, pRows l[k].ps = pRows ps ∧ ps.length ≤ 1048576 ∧ sumN ps ≤ 1048576) := ⟨_, rfl, hb _ (List.getElem_mem hk)⟩
      simp (maxSteps := 3000000) only [Try.f37, g_markPacketS, hsl, hrw, hset, hlt, h0, List.set_set, List.length_set, wc1, psOf_rows, tY3, tY26, tY42, Try.underlying26, Try.underlying55, e_skip, e_seq, e_cond, e_block, e_region, seqK_normal, blkK_normal, condK_some, regK_false, e_nil, e_cons, gateK_go, exK_some, x_move, x_assign, x_load, x_store, x_binOp, x_fieldAddr, x_indexAddr, x_call, x_len, callK_some, gate_none, boolOf, evA, putT, refn, fpD, oBin, upsl, upl, lk, dstsOf, oLoadQ, oLoadKid, oStoreQ, oStoreTree, isTrP, tkd, tkds, ownOf, nodupB, deadL, kidAbs, kidBlk, kidRows, TK.isCell, D.toL, oIndexAddr, oFieldAddr, oLen, lenOf, putAt, AV.cells, AV.one, Value.oneCell', AV.ids, AV.ids.idsL, List.find?_cons, beq_self_eq_true, List.map_cons, List.map_nil, List.getD_cons_zero, List.getD_cons_succ, List.set_cons_zero, List.set_cons_succ, List.length_cons, List.length_nil, List.replicate, List.cons_append, List.nil_append, List.append_nil, List.getElem?_cons_zero, List.take_zero, List.take_succ_cons, List.take_nil, List.drop_zero, List.drop_succ_cons, List.drop_nil, List.all_nil, List.all_cons, Bool.and_self, Bool.and_true, true_and, and_true, ↓reduceIte, Bool.false_eq_true, Bool.not_false, and_self, decide_true, Nat.reduceAdd, Nat.reduceMul, Nat.reduceLT, Nat.reduceSub, Nat.reduceLeDiff, eq_self, reduceCtorEq, List.isEmpty_nil, Nat.lt_add_one, Nat.zero_lt_succ, List.filterMap_nil, List.filterMap_cons, List.contains_nil, Bool.and_false, Int.toNat_natCast, loopK_normal, w2]

      repeat' first
        | refine And.intro (by omega) ?_
        | refine And.intro ⟨⟨hex, by omega, by omega⟩, trivial⟩ ?_
        | refine And.intro ⟨hex, by omega, by omega⟩ ?_
        | refine And.intro (by kernel_rfl) ?_
      have hfin : (ptRows (ptO l c k)).set (k) [D.l 9 (pRows (mkL l[k].ps C)), D.v (.int .i64 ((mkC l[k].ps C : Nat) : Int))] = (ptRows (ptO l c (k + 1))) := by
        exact (ptRows_setQ _ _ (ptMk l[k] C)).trans (by rw [hms])
      rw [hfin]
      exact ⟨k + 1, [(0, some 0)], by omega, by omega, ⟨⟨⟨rfl, rfl, rfl⟩, ⟨congrArg (fun z : Int => AV.v (Value.int .i64 z)) (by rw [hCn]; try omega), rfl, rfl⟩, trivial, trivial, trivial, ⟨rfl, rfl, rfl⟩, fitT_rep _ _ rfl⟩, ⟨.inl rfl, rfl, rfl, rfl, trivial⟩, by simp [rn]⟩, by simp [keepIds, rn]⟩
    · have hlt : ((k : Int) < (l.length : Int)) = False := eq_false (by omega)
      simp (maxSteps := 3000000) only [Try.f37, hsl, hlt, Try.underlying55, e_ret, e_exit, e_seq, e_cond, e_region, seqK_normal, seqK_exit, blkK_exit, condK_some, regK_false, e_nil, e_cons, gateK_go, exK_some, x_move, x_assign, x_binOp, x_len, doneO_ret, endsO_one, gate_none, boolOf, evA, putT, refn, fpD, oBin, upsl, lk, dstsOf, resL, resA, oLen, lenOf, List.map_cons, List.map_nil, List.getD_cons_zero, List.getD_cons_succ, List.set_cons_zero, List.set_cons_succ, List.length_cons, List.length_nil, List.replicate, List.cons_append, List.nil_append, List.all_nil, true_and, ↓reduceIte, Bool.false_eq_true, decide_false, Nat.reduceAdd, Nat.reduceMul, Nat.reduceSub, eq_self, loopK_exit]
      obtain rfl : k = l.length := by omega
      rw [ptO, List.take_length, List.drop_length, List.append_nil]
      exact ⟨[(0, some 0)], ⟨⟨⟨rfl, rfl, rfl⟩, trivial⟩, ⟨.inl rfl, rfl, rfl, rfl, trivial⟩, by simp [rn]⟩, by simp [keepIds, rn]⟩
  · rename_i r lo hi c T sz cols rows
    cases hg
    obtain ⟨rfl, rfl, rfl, rfl, ⟨l, rfl, hn, hsm, hb0, hlo, rfl⟩, hc0, hc1⟩ := hc
    rw [ptsOf_rows]
    obtain ⟨c, rfl⟩ : ∃ n : Nat, c = (n : Int) := ⟨c.toNat, by omega⟩
    rw [Int.toNat_natCast]
    obtain ⟨pre, tl, rfl, rfl⟩ : ∃ pre tl, l = pre ++ tl ∧ lo = pre.length := ⟨l.take lo, l.drop lo, (List.take_append_drop lo l).symm, by rw [List.length_take]; omega⟩
    have hb : ∀ x ∈ tl, x.ps.length ≤ 1048576 ∧ sumN x.ps ≤ 1048576 := fun x hx => hb0 x (List.mem_append_right _ hx)
    rw [List.take_left, List.drop_left, List.length_append]
    rw [sumT_app] at hsm
    rw [List.length_append] at hn
    refine ⟨⟨by simp [likeBs, likeB, ptRows_len, ptL_len], by simp [Blk.liveB, blkIds], by simp [AV.ids]⟩, _, rfl, fun w Z s vs h => h, ?_⟩
    clear hlive
    simp (maxSteps := 3000000) only [Try.f37, mpg, e_seq, e_block, e_region, seqK_normal, regK_false, e_nil, e_cons, gateK_go, exK_some, x_assign, gate_none, evA, putT, fpD, upsl, dstsOf, hpAt, List.map_cons, List.map_nil, List.set_cons_zero, List.set_cons_succ, List.length_cons, List.length_nil, List.replicate, List.cons_append, List.nil_append, List.append_nil, List.all_nil, true_and, ↓reduceIte, Bool.false_eq_true, Nat.reduceAdd, Nat.reduceMul, Nat.reduceSub, eq_self]
    refine e_loop _ _ _ _ _ _ _ _ (fun k : Nat => [.sub 0 pre.length (pre.length + tl.length), .v (.int .i64 (ptC (tl.take k) c : Nat)), .any, .any, .any, .v (.int .i64 (k : Int))] ++ List.replicate (Try.f37.ntmps - 6) .any) (fun k => [(0, .tr .whole 42 2 [.sl 29 9 [.cell, .cell, .cell, .cell, .cell, .cell, .cell, .cell, .sl 5 1 [.cell]], .cell] (ptRows (pre ++ ptO tl c k)))]) (fun k => k ≤ tl.length) (fun k => tl.length - k) 1 (fun k => by simp) ?_ fun k hk' => ?_
    · exact ⟨0, [(0, some 0)], Nat.zero_le _, ⟨⟨⟨rfl, rfl, rfl⟩, ⟨rfl, rfl, rfl⟩, trivial, trivial, trivial, ⟨rfl, rfl, rfl⟩, fitT_rep _ _ rfl⟩, ⟨.inl rfl, rfl, rfl, rfl, trivial⟩, by simp [rn]⟩, by simp [keepIds, rn]⟩
    have w2 : IntKind.i64.wrap ((k : Int) + 1) = ((k + 1 : Nat) : Int) := by rw [wrap_id] <;> omega
    have hsl : (ptRows (pre ++ ptO tl c k)).length = pre.length + tl.length := by rw [ptRows_len, List.length_append, ptO_len]
    by_cases hk : k < tl.length
    · have hlt : ((k : Int) < (tl.length : Int)) = True := eq_true (by omega)
      have h0 : (0 ≤ (k : Int)) = True := eq_true (by omega)
      have hat : (pre ++ ptO tl c k)[pre.length + k]? = some tl[k] := by
        rw [List.getElem?_append_right (by omega), Nat.add_sub_cancel_left]; exact ptO_at hk
      have hrw := ptRows_at hat
      have hset : ∀ r : List D, ((ptRows (pre ++ ptO tl c k)).set (pre.length + k) r).getD (pre.length + k) [] = r := fun r => set_getD (by rw [hsl]; omega) r []
      have hCe := ptC_eq (tl.take k) c
      have hsk := sumT_mem (List.getElem_mem hk)
      have hCl := sumT_take tl k
      have hCt : (tl.take k).length = k := by rw [List.length_take]; omega
      rw [hCt] at hCe
      have hCn := ptC_next (c := c) hk
      have hms := ptO_set (c := c) hk
      obtain ⟨C, hC⟩ : ∃ C, ptC (tl.take k) c = C := ⟨_, rfl⟩
      rw [hC] at hCe hCn hms ⊢
      have hmk := mkC_eq tl[k].ps C
      have wc1 : IntKind.i64.wrap (((mkC tl[k].ps C : Nat) : Int) + 1) = ((mkC tl[k].ps C + 1 : Nat) : Int) := by rw [wrap_id] <;> omega
      have hex : (∃ ps, pRows tl[k].ps = pRows ps ∧ ps.length ≤ 1048576 ∧ sumN ps ≤ 1048576) := ⟨_, rfl, hb _ (List.getElem_mem hk)⟩
      simp (maxSteps := 3000000) only [Try.f37, g_markPacketS, hsl, hrw, hset, hlt, h0, Nat.add_sub_cancel_left, List.set_set, List.length_set, wc1, psOf_rows, tY3, tY26, tY42, Try.underlying26, Try.underlying55, e_skip, e_seq, e_cond, e_block, e_region, seqK_normal, blkK_normal, condK_some, regK_false, e_nil, e_cons, gateK_go, exK_some, x_move, x_assign, x_load, x_store, x_binOp, x_fieldAddr, x_indexAddr, x_call, x_len, callK_some, gate_none, boolOf, evA, putT, refn, fpD, oBin, upsl, upl, lk, dstsOf, oLoadQ, oLoadKid, oStoreQ, oStoreTree, isTrP, tkd, tkds, ownOf, nodupB, deadL, kidAbs, kidBlk, kidRows, TK.isCell, D.toL, oIndexAddr, oFieldAddr, oLen, lenOf, putAt, AV.cells, AV.one, Value.oneCell', AV.ids, AV.ids.idsL, List.find?_cons, beq_self_eq_true, List.map_cons, List.map_nil, List.getD_cons_zero, List.getD_cons_succ, List.set_cons_zero, List.set_cons_succ, List.length_cons, List.length_nil, List.replicate, List.cons_append, List.nil_append, List.append_nil, List.getElem?_cons_zero, List.take_zero, List.take_succ_cons, List.take_nil, List.drop_zero, List.drop_succ_cons, List.drop_nil, List.all_nil, List.all_cons, Bool.and_self, Bool.and_true, true_and, and_true, ↓reduceIte, Bool.false_eq_true, Bool.not_false, and_self, decide_true, Nat.reduceAdd, Nat.reduceMul, Nat.reduceLT, Nat.reduceSub, Nat.reduceLeDiff, eq_self, reduceCtorEq, List.isEmpty_nil, Nat.lt_add_one, Nat.zero_lt_succ, List.filterMap_nil, List.filterMap_cons, List.contains_nil, Bool.and_false, Int.toNat_natCast, loopK_normal, w2]

      repeat' first
        | refine And.intro (by omega) ?_
        | refine And.intro ⟨⟨hex, by omega, by omega⟩, trivial⟩ ?_
        | refine And.intro ⟨hex, by omega, by omega⟩ ?_
        | refine And.intro (by kernel_rfl) ?_
      have hfin : (ptRows (pre ++ ptO tl c k)).set (pre.length + k) [D.l 9 (pRows (mkL tl[k].ps C)), D.v (.int .i64 ((mkC tl[k].ps C : Nat) : Int))] = (ptRows (pre ++ ptO tl c (k + 1))) := by
        exact (ptRows_setQ _ _ (ptMk tl[k] C)).trans (by rw [List.set_append_right _ _ (by omega), Nat.add_sub_cancel_left, hms])
      rw [hfin]
      exact ⟨k + 1, [(0, some 0)], by omega, by omega, ⟨⟨⟨rfl, rfl, rfl⟩, ⟨congrArg (fun z : Int => AV.v (Value.int .i64 z)) (by rw [hCn]; try omega), rfl, rfl⟩, trivial, trivial, trivial, ⟨rfl, rfl, rfl⟩, fitT_rep _ _ rfl⟩, ⟨.inl rfl, rfl, rfl, rfl, trivial⟩, by simp [rn]⟩, by simp [keepIds, rn]⟩
    · have hlt : ((k : Int) < (tl.length : Int)) = False := eq_false (by omega)
      simp (maxSteps := 3000000) only [Try.f37, hlt, Nat.add_sub_cancel_left, Try.underlying55, e_ret, e_exit, e_seq, e_cond, e_region, seqK_normal, seqK_exit, blkK_exit, condK_some, regK_false, e_nil, e_cons, gateK_go, exK_some, x_move, x_assign, x_binOp, x_len, doneO_ret, endsO_one, gate_none, boolOf, evA, putT, refn, fpD, oBin, upsl, lk, dstsOf, resL, resA, oLen, lenOf, List.map_cons, List.map_nil, List.getD_cons_zero, List.getD_cons_succ, List.set_cons_zero, List.set_cons_succ, List.length_cons, List.length_nil, List.replicate, List.cons_append, List.nil_append, List.all_nil, true_and, ↓reduceIte, Bool.false_eq_true, decide_false, Nat.reduceAdd, Nat.reduceMul, Nat.reduceSub, eq_self, loopK_exit]
      obtain rfl : k = tl.length := by omega
      rw [ptO, List.take_length, List.drop_length, List.append_nil]
      exact ⟨[(0, some 0)], ⟨⟨⟨rfl, rfl, rfl⟩, trivial⟩, ⟨.inl rfl, rfl, rfl, rfl, trivial⟩, by simp [rn]⟩, by simp [keepIds, rn]⟩
  · cases hg
end Go.Proofs.Ytloffpgdclbkhaa

namespace Go.Proofs.Ytloffpgdclbkhaa
open Go.RowKit
set_option linter.unusedSimpArgs false
set_option linter.unusedVariables false

/-! held marks in lists of parts; the exact law of PartsHear -/
theorem ptL_at {l : List Pt} {c k : Nat} (h : k < l.length) : (ptL l c)[k]? = some (ptMk l[k] (ptC (l.take k) c)) := by
  have e : ptL l c = ptL (l.take k) c ++ ptMk l[k] (ptC (l.take k) c) :: ptL (l.drop (k + 1)) (mkC l[k].ps (ptC (l.take k) c) + 1) := by
    conv => lhs; rw [← List.take_append_drop k l, List.drop_eq_getElem_cons h, ptL_app, ptL]
  have hl : (ptL (l.take k) c).length = k := by rw [ptL_len, List.length_take]; omega
  rw [e, List.getElem?_append_right (by omega), hl, Nat.sub_self]; rfl
theorem sumN_mk : ∀ (ps : List Pk) (c : Nat), sumN (mkL ps c) = sumN ps
  | [], c => rfl
  | x :: t, c => by
    have h1 := sumN_mk t (c + 8 + x.d.length)
    simp only [mkL, sumN, List.map_cons, List.sum_cons, mkPk, marks_len] at h1 ⊢
    omega
theorem sumT_mk : ∀ (l : List Pt) (c : Nat), sumT (ptL l c) = sumT l
  | [], c => rfl
  | x :: t, c => by
    have h1 := sumT_mk t (mkC x.ps c + 1)
    have h2 := sumN_mk x.ps c
    simp only [ptL, sumT, List.map_cons, List.sum_cons, ptMk, mkL_len, h2] at h1 ⊢
    omega
theorem ptC_mk (l : List Pt) (c : Nat) : ptC (ptL l c) c = ptC l c := by rw [ptC_eq, ptC_eq, ptL_len, sumT_mk]
def g_heldPartS : PC := fun args => match args with
  | [.l _ rows, .v (.int .i64 c)] => some ((∃ l, rows = ptRows (ptL l c.toNat) ∧ l.length ≤ 1048577 ∧ sumT l ≤ 67108864 ∧ ∀ x ∈ l, x.ps.length ≤ 1048576 ∧ sumN x.ps ≤ 1048576) ∧ 0 ≤ c ∧ c ≤ 274877906944, .v (.int .i64 (ptC (ptsOf rows) c.toNat : Nat)), [])
  | _ => none
def hpg : List (FuncId × Abs) := [(17, pureAbs g_heldPacketS)]
theorem hpg_ok : ∀ p ∈ hpg, CallOk Try.prog p.1 p.2 := by
  intro p hp
  simp only [hpg, List.mem_cons, List.not_mem_nil, or_false] at hp
  rcases hp with rfl
  · exact heldPacketS_ok.call
set_option maxHeartbeats 1000000 in
set_option maxRecDepth 100000 in
theorem heldPartS_ok : PureOk Try.prog 38 g_heldPartS := by
  refine PureOk.of_vc (G := hpg) hpg_ok mixed Try.func38 (by kernel_rfl) rfl ?_
  intro args cnd r bs hg hc
  unfold g_heldPartS at hg
  split at hg
  · rename_i sz rows c
    cases hg
    obtain ⟨⟨l, rfl, hn, hsm, hb⟩, hc0, hc1⟩ := hc
    obtain ⟨c, rfl⟩ : ∃ n : Nat, c = (n : Int) := ⟨c.toNat, by omega⟩
    rw [Int.toNat_natCast, ptsOf_rows, ptC_mk]
    refine ⟨⟨rfl, by simp, by simp [AV.ids]⟩, [.l 2 (ptRows (ptL l c)), .v (.int .i64 (c : Int))], rfl, fun w vs h => CvL.ok (.cons (.l _ _ _ (ptRows_w _)) (.cons (.refl _) .nil)) h, ?_⟩
    simp (maxSteps := 3000000) only [Try.f38, hpg, e_seq, e_block, e_region, seqK_normal, regK_false, e_nil, e_cons, gateK_go, exK_some, x_assign, gate_none, evA, putT, fpD, upsl, dstsOf, List.map_cons, List.map_nil, List.set_cons_zero, List.set_cons_succ, List.length_cons, List.length_nil, List.replicate, List.cons_append, List.nil_append, List.all_nil, true_and, ↓reduceIte, Bool.false_eq_true, Nat.reduceAdd, Nat.reduceMul, Nat.reduceSub, eq_self]
    refine e_loop _ _ _ _ _ _ _ _ (fun k : Nat => [.l 2 (ptRows (ptL l c)), .v (.int .i64 (ptC (l.take k) c : Nat)), .any, .any, .any, .v (.int .i64 (k : Int))] ++ List.replicate (Try.f38.ntmps - 6) .any) (fun k => []) (fun k => k ≤ l.length) (fun k => l.length - k) 0 (fun k => by simp) ?_ fun k hk' => ?_
    · exact ⟨0, [], Nat.zero_le _, ⟨⟨⟨rfl, rfl, rfl⟩, ⟨rfl, rfl, rfl⟩, trivial, trivial, trivial, ⟨rfl, rfl, rfl⟩, fitT_rep _ _ rfl⟩, trivial, by simp [rn]⟩, by simp [keepIds]⟩
    have w2 : IntKind.i64.wrap ((k : Int) + 1) = ((k + 1 : Nat) : Int) := by rw [wrap_id] <;> omega
    by_cases hk : k < l.length
    · have hlt : ((k : Int) < (l.length : Int)) = True := eq_true (by omega)
      have h0 : (0 ≤ (k : Int)) = True := eq_true (by omega)
      have hrow := ptRows_at (ptL_at (c := c) hk)
      have hCe := ptC_eq (l.take k) c
      have hsk := sumT_mem (List.getElem_mem hk)
      have hCl := sumT_take l k
      have hCt : (l.take k).length = k := by rw [List.length_take]; omega
      rw [hCt] at hCe
      have hCn := ptC_next (c := c) hk
      obtain ⟨C, hC⟩ : ∃ C, ptC (l.take k) c = C := ⟨_, rfl⟩
      rw [hC] at hCe hCn hrow ⊢
      simp only [ptMk] at hrow
      have hmk := mkC_eq l[k].ps C
      have hbk := hb _ (List.getElem_mem hk)
      have hex : (∃ ps, pRows (mkL l[k].ps C) = pRows (mkL ps C) ∧ ps.length ≤ 1048576 ∧ sumN ps ≤ 1048576) := ⟨_, rfl, hbk⟩
      have wc1 : IntKind.i64.wrap (((mkC l[k].ps C : Nat) : Int) + 1) = ((mkC l[k].ps C + 1 : Nat) : Int) := by rw [wrap_id] <;> omega
      have nb : (((mkC l[k].ps C : Nat) : Int) != ((mkC l[k].ps C : Nat) : Int)) = false := by simp
      simp (maxSteps := 3000000) only [Try.f38, g_heldPacketS, ptRows_len, ptL_len, hrow, hlt, h0, wc1, nb, psOf_rows, mkC_mk, D.toI, D.toL, tY3, tY26, tY42, Try.underlying55, e_skip, e_ret, e_seq, e_cond, e_block, e_region, seqK_normal, seqK_ret, blkK_normal, blkK_ret, condK_some, regK_false, e_nil, e_cons, gateK_go, exK_some, x_move, x_assign, x_load, x_binOp, x_fieldAddr, x_indexAddr, x_call, x_len, callK_some, done_ret, gate_none, boolOf, evA, putT, refn, fpD, oBin, upsl, lk, dstsOf, resL, resA, packA, oLoadQ, isTrP, D.toL, oLoad, oIndexAddr, oFieldAddr, oLen, rowLoad, lenOf, nilV, viewsOk, CK.av, CK.ok, pureAbs, nrm, hpAt, AV.ren, List.find?_cons, beq_self_eq_true, List.map_cons, List.map_nil, List.getD_cons_zero, List.getD_cons_succ, List.set_cons_zero, List.set_cons_succ, List.length_cons, List.length_nil, List.replicate, List.cons_append, List.nil_append, List.drop_zero, List.drop_succ_cons, List.headD_cons, List.all_nil, true_and, ↓reduceIte, Bool.false_eq_true, and_self, decide_true, Nat.reduceAdd, Nat.reduceMul, Nat.reduceSub, eq_self, ne_eq, not_false_eq_true, reduceCtorEq, Nat.zero_lt_succ, Nat.zero_le, decide_eq_true_eq, Int.toNat_natCast, loopK_normal, loopK_ret, w2]
      refine ⟨⟨hex, by omega, by omega⟩, ?_⟩
      rw [if_neg (by omega)]
      exact ⟨k + 1, [], by omega, by omega, ⟨⟨⟨rfl, rfl, rfl⟩, ⟨congrArg (fun z : Int => AV.v (Value.int .i64 z)) (by rw [hCn]; try omega), rfl, rfl⟩, trivial, trivial, trivial, ⟨rfl, rfl, rfl⟩, fitT_rep _ _ rfl⟩, trivial, by simp [rn]⟩, by simp [keepIds]⟩
    · have hlt : ((k : Int) < (l.length : Int)) = False := eq_false (by omega)
      simp (maxSteps := 3000000) only [Try.f38, ptRows_len, ptL_len, hlt, Try.underlying55, e_ret, e_exit, e_seq, e_cond, e_region, seqK_normal, seqK_exit, blkK_exit, condK_some, regK_false, e_nil, e_cons, gateK_go, exK_some, x_move, x_assign, x_binOp, x_len, done_ret, gate_none, boolOf, evA, putT, refn, fpD, oBin, upsl, dstsOf, resL, resA, packA, oLen, lenOf, hpAt, List.map_cons, List.map_nil, List.getD_cons_zero, List.getD_cons_succ, List.set_cons_zero, List.set_cons_succ, List.length_cons, List.length_nil, List.replicate, List.cons_append, List.nil_append, List.all_nil, true_and, ↓reduceIte, Bool.false_eq_true, decide_false, Nat.reduceAdd, Nat.reduceMul, Nat.reduceSub, eq_self, loopK_exit]
      obtain rfl : k = l.length := by omega
      rw [List.take_length]
      exact ⟨_, [], rfl, ⟨⟨⟨rfl, rfl, rfl⟩, trivial⟩, trivial, by simp [rn]⟩⟩
  · cases hg
/-! how large all is -/
def ptGood (x : Pt) : Prop := pMid x.ps ∧ sumN x.ps ≤ 48
theorem ok_len {q : Pk} (h : q.ok = true) : q.d.length ≤ 48 := by
  simp only [Pk.ok, pkB, pkR, Bool.and_eq_true, decide_eq_true_eq] at h
  omega
theorem outP_mem {l : List Pt} {k : Nat} {x : Pt} (h : x ∈ outP l k) : x ∈ l := by
  rcases List.mem_append.1 h with h | h
  · exact List.mem_of_mem_take h
  · exact List.mem_of_mem_drop h
theorem outP_len (l : List Pt) (k : Nat) : (outP l k).length ≤ l.length := by
  rw [outP, List.length_append, List.length_take, List.length_drop]; omega
theorem phF_bd {l : List Pt} {q : Pk} (n : Int) (hm : ptMid l) (hq : q.d.length ≤ 1048576) : (phF l q n).length ≤ 4 ∧ ∀ x ∈ phF l q n, ptGood x := by
  rw [phF]
  split
  · rename_i hok
    simp only [phOk, Bool.and_eq_true] at hok
    obtain ⟨⟨h1, h2⟩, h3⟩ := hok
    obtain ⟨h4, h5⟩ := ptsB_all h1
    have hlv : (liveP l n).length ≤ 3 := Nat.le_trans (liveP_len l n) h4
    have hg : ∀ x ∈ liveP l n, ptGood x := fun x hx => ⟨hm.2 x (liveP_mem hx), (partB_all (h5 x (liveP_mem hx))).2.1⟩
    split
    · exact ⟨by omega, hg⟩
    · split
      · refine ⟨by rw [withF, List.length_append]; simp only [List.length_cons, List.length_nil]; omega, fun x hx => ?_⟩
        rcases List.mem_append.1 hx with hx | hx
        · exact hg x hx
        · rw [List.mem_singleton.1 hx]
          exact ⟨⟨by simp, fun y hy => by rw [List.mem_singleton.1 hy]; exact hq⟩, by have := ok_len h2; simp [sumN]; omega⟩
      · rename_i hne
        have hlt : findP (liveP l n) q < (liveP l n).length := Nat.lt_of_le_of_ne (findP_le _ _) hne
        rw [hitL]
        split
        · exact ⟨Nat.le_trans (outP_len _ _) (by omega), fun x hx => hg x (outP_mem hx)⟩
        · rename_i r hr
          have hx := hg _ (List.getElem_mem hlt)
          have hgd : (liveP l n).getD (findP (liveP l n) q) pt0 = (liveP l n)[findP (liveP l n) q] := by simp [List.getD, hlt]
          rw [hgd] at hr ⊢
          obtain ⟨r1, r2⟩ := putO_mid hr hx.1 hq
          split
          · exact ⟨Nat.le_trans (outP_len _ _) (by omega), fun x hx => hg x (outP_mem hx)⟩
          · refine ⟨by rw [List.length_set]; omega, fun x hx => ?_⟩
            rcases List.mem_or_eq_of_mem_set hx with hx | rfl
            · exact hg x hx
            · exact ⟨r1, (partB_all r2).2.1⟩
  · exact ⟨Nat.zero_le _, fun x hx => (List.not_mem_nil hx).elim⟩
theorem phP_len (l : List Pt) (q : Pk) (n : Int) : (phP l q n).d.length ≤ 48 := by
  rw [phP]
  split
  · rename_i hok
    simp only [phOk, Bool.and_eq_true] at hok
    split
    · exact ok_len hok.1.2
    · split
      · exact Nat.zero_le _
      · rw [hitP]
        split
        · exact Nat.zero_le _
        · exact whole_len _ _
  · exact Nat.zero_le _
theorem phS_len {l : List Pt} {q : Pk} {n : Int} (h : phS l q n = true) : (phF l q n).length = 4 := by
  simp only [phS, Bool.and_eq_true, decide_eq_true_eq, Bool.not_eq_true', decide_eq_false_iff_not] at h
  obtain ⟨h1, ⟨h2, h3⟩, h4⟩ := h
  have h5 := h1
  simp only [phOk, Bool.and_eq_true] at h5
  have h6 := (ptsB_all h5.1.1).1
  have h7 := liveP_len l n
  rw [phF, if_pos h1, if_neg (by rw [h2]; decide), if_pos h3, withF, List.length_append]
  simp only [List.length_cons, List.length_nil]
  omega
theorem sumT_le {l : List Pt} {b : Nat} (h : ∀ x ∈ l, x.ps.length * 8 + sumN x.ps ≤ b) : sumT l ≤ l.length * b := by
  induction l with
  | nil => simp [sumT]
  | cons x t ih =>
    have h1 := h x (List.mem_cons_self ..)
    have h2 := ih fun y hy => h y (List.mem_cons_of_mem _ hy)
    rw [sumT, List.map_cons, List.sum_cons, ← sumT, List.length_cons, Nat.succ_mul]
    omega
theorem phF_sum {l : List Pt} {q : Pk} (n : Int) (hm : ptMid l) (hq : q.d.length ≤ 1048576) : sumT (phF l q n) ≤ 33554656 := by
  obtain ⟨h1, h2⟩ := phF_bd (q := q) n hm hq
  have := sumT_le (l := phF l q n) (b := 8388664) fun x hx => by
    obtain ⟨g1, g2⟩ := h2 x hx
    have := g1.1
    omega
  have h4 := Nat.mul_le_mul_right 8388664 h1
  omega
theorem szLeft_val {l : Int} {n : Nat} (h : ¬ szLeft l n < 0) : szLeft l n = l - (n : Int) := by
  unfold szLeft at h ⊢
  split at h
  · omega
  · rename_i h2; rw [if_neg h2]
theorem szF_use : ∀ (ps : List Pk) (l : Int), 0 ≤ szF szP ps l → szF szP ps l + (sumN ps : Nat) ≤ l
  | [], l, h => by simp [szF, sumN]
  | x :: t, l, h => by
    simp only [szF] at h ⊢
    split at h
    · omega
    · rename_i hx
      have e : szP x l = l - (x.d.length : Int) := szLeft_val hx
      have := szF_use t _ h
      rw [if_neg hx, sumN, List.map_cons, List.sum_cons, ← sumN]
      rw [e] at this ⊢
      omega
theorem szPS_use {ps : List Pk} {l : Int} (hl : 0 ≤ l ∧ l ≤ 1048576) (h : 0 ≤ szPS ps l) : szPS ps l + (ps.length : Int) + (sumN ps : Nat) ≤ l := by
  unfold szPS at h ⊢
  split at h
  · omega
  · rename_i hx
    have e := szLeft_val hx
    have := szF_use ps _ h
    rw [if_neg hx]
    rw [e] at this ⊢
    omega
theorem szTS_sum {l : List Pt} {L : Int} (hL : 0 ≤ L ∧ L ≤ 1048576) (h : 0 ≤ szTS l L) : ((sumT l : Nat) : Int) ≤ 8 * L := by
  have hv : ∀ (l : List Pt) (L : Int), 0 ≤ L ∧ L ≤ 1048576 → 0 ≤ szF szT l L → 8 * szF szT l L + ((sumT l : Nat) : Int) ≤ 8 * L := by
    intro l
    induction l with
    | nil => intro L _ h; simp [szF, sumT]
    | cons x t ih =>
      intro L hL h
      simp only [szF] at h ⊢
      split at h
      · omega
      · rename_i hx
        rw [if_neg hx]
        have hb := szPS_bd x.ps L hL
        have e : szT x L = szPS x.ps L := rfl
        rw [e] at hx h ⊢
        have h1 := szPS_use hL (by omega : 0 ≤ szPS x.ps L)
        have h2 := ih (szPS x.ps L) (by omega) h
        rw [sumT, List.map_cons, List.sum_cons, ← sumT]
        omega
  unfold szTS at h
  split at h
  · omega
  · rename_i hx
    have hb := szLeft_bd (l := L) (n := l.length) hL
    have := hv l _ (by omega) h
    have h4 : szLeft L l.length ≤ L := by unfold szLeft at hx ⊢; split <;> omega
    omega
theorem sumT_drop (l : List Pt) (k : Nat) : sumT (l.drop k) ≤ sumT l := by
  conv => rhs; rw [← List.take_append_drop k l, sumT_app]
  omega
theorem drop_left1 {α : Type} {A B : List α} (h : A.length = 1) : List.drop 1 (A ++ B) = B := by rw [← h, List.drop_left]
theorem szPS_le (ps : List Pk) (l : Int) (hl : 0 ≤ l ∧ l ≤ 1048576) (h : 0 ≤ szPS ps l) : sumN ps ≤ 1048576 := by
  have := szPS_use hl h
  omega
theorem szTS_each {l : List Pt} {L : Int} (hL : 0 ≤ L ∧ L ≤ 1048576) (h : 0 ≤ szTS l L) : ∀ x ∈ l, sumN x.ps ≤ 1048576 := by
  unfold szTS at h
  split at h
  · omega
  · have hb := szLeft_bd (l := L) (n := l.length) hL
    exact (szF_bd (f := szT) (P := fun x => sumN x.ps ≤ 1048576) l (fun x _ l hl => by
      have hb := szPS_bd x.ps l hl
      exact ⟨hb.1, hb.2.1, fun h0 => szPS_le x.ps l hl h0⟩) (szLeft L l.length) (by omega)).2.2 h
def g_xph : PC := fun args => match args with
  | [.l _ rows', .agg [.v (.int .i64 f), .v (.int .i64 t), .v (.int .i64 p), .v (.int .i64 h), .v (.int .i64 i), .v (.int .i64 a), .v (.bool m), .v (.bool u), .l _ rows], .v (.int .i64 n)] => some ((∃ l, rows' = ptRows l ∧ ptFin l) ∧ rows.length ≤ 9223372036854775807 ∧ ∃ xs, rows = rowsOfBytes xs, .v (.bool true), [])
  | _ => none
def xph : List (FuncId × Abs) := [(9, pureAbs g_szPacket), (11, pureAbs g_toPacket), (14, pureAbs g_eqPacket), (15, ownAbs g_markPacket), (26, pureAbs g_heldPacket), (30, pureAbs g_szPartS), (32, pureAbs g_toPartS), (34, pureAbs g_eqPartS), (37, ownAbs g_markPartS), (38, pureAbs g_heldPartS), (35, pureAbs g_sPartsHear), (36, pureAbs g_partsHear)]
theorem xph_ok : ∀ p ∈ xph, CallOk Try.prog p.1 p.2 := by
  intro p hp
  simp only [xph, List.mem_cons, List.not_mem_nil, or_false] at hp
  rcases hp with rfl | rfl | rfl | rfl | rfl | rfl | rfl | rfl | rfl | rfl | rfl | rfl
  · exact szPacket_ok.call
  · exact toPacket_ok.call
  · exact eqPacket_ok.call
  · exact markPacket_ok.call
  · exact heldPacket_ok.call
  · exact szPartS_ok.call
  · exact toPartS_ok.call
  · exact eqPartS_ok.call
  · exact markPartS_ok.call
  · exact heldPartS_ok.call
  · exact specPartsHear_ok.call
  · exact implPartsHear_ok.call
set_option maxHeartbeats 16000000 in
set_option maxRecDepth 100000 in
theorem lawExactPartsHear_ok : PureOk Try.prog 8 g_xph := by
  refine PureOk.of_vc (G := xph) xph_ok mixed Try.func8 (by kernel_rfl) rfl ?_
  intro args cnd r bs hg hc
  unfold g_xph at hg
  split at hg
  · rename_i sz' rows' f t p h i a m u sz rows n
    cases hg
    obtain ⟨⟨l, rfl, hf⟩, hn, xs, rfl⟩ := hc
    rw [rowsOf_len] at hn
    refine ⟨⟨rfl, by simp, by simp [AV.ids]⟩, [.l 2 (ptRows l), .agg [.v (.int .i64 f), .v (.int .i64 t), .v (.int .i64 p), .v (.int .i64 h), .v (.int .i64 i), .v (.int .i64 a), .v (.bool m), .v (.bool u), .l 1 (rowsOfBytes xs)], .v (.int .i64 n)], rfl, fun w vs h => CvL.ok (.cons (.l _ _ _ (ptRows_w l)) (.cons (.cons (.refl _) (.cons (.refl _) (.cons (.refl _) (.cons (.refl _) (.cons (.refl _) (.cons (.refl _) (.cons (.refl _) (.cons (.refl _) (.cons (.l _ _ _ (rowsOf_w xs)) .nil))))))))) (.cons (.refl _) .nil))) h, ?_⟩
    have hb := szTS_bd l 1048576 (by omega)
    cases hS : phS l ⟨f, t, p, h, i, a, m, u, xs⟩ n with
    | false =>
      simp (maxSteps := 6000000) only [Try.f8, xph, g_szPacket, g_toPacket, g_eqPacket, g_markPacket, g_heldPacket, g_szPartS, g_toPartS, g_eqPartS, g_markPartS, g_heldPartS, g_sPartsHear, g_partsHear, ptsOf_rows, ptC_mk, bytesOf_rows, rowsOf_len, marks_len, bne_self_eq_false, and_self, decide_true, hS, Bool.false_eq_true, ↓reduceIte, tY24, tY29, Try.underlying4, e_skip, e_ret, e_seq, e_cond, e_region, seqK_normal, seqK_ret, condK_some, regK_true, regK_false, e_nil, e_cons, gateK_go, gateK_ask, pickK_some, exK_some, x_pick, x_move, x_assign, x_alloc, x_box, x_load, x_store, x_binOp, x_unOp, x_extract, x_call, callK_some, done_ret, ownAbs, uniq, idxOf, zipB, Blk.liveB, gate_none, gate_some, gateS_some, gateV_bool, boolOf, evA, putT, refn, fpD, oBin, oUn, upsl, upl, lk, dstsOf, resL, resA, packA, oLoadQ, oStoreQ, isTrP, oLoad, oStore, oAlloc, oBox, oExtract, nilV, putAt, AV.cells, AV.one, Value.oneCell', Value.cells, pureAbs, nrm, nrm.nrmL, hpAt, sh, AV.ren, AV.ren.renL, fpOf, footO, foot, blkIds, AV.ids, AV.ids.idsL, Op.operands, Call.operands, List.find?_cons, Nat.reduceBEq, beq_self_eq_true, List.map_cons, List.map_nil, List.getD_cons_zero, List.getD_cons_succ, List.set_cons_zero, List.set_cons_succ, List.length_cons, List.length_nil, List.replicate, List.cons_append, List.nil_append, List.append_nil, List.getElem?_cons_zero, List.getElem?_cons_succ, List.take_zero, List.take_succ_cons, List.take_nil, List.drop_zero, List.drop_succ_cons, List.drop_nil, List.flatMap_cons, List.flatMap_nil, List.toList_toArray, Array.toList_append, List.all_nil, List.all_cons, Bool.and_self, true_and, and_true, ↓reduceIte, Bool.false_eq_true, Bool.true_eq_false, Bool.not_true, Bool.not_false, and_self, decide_true, Nat.reduceAdd, Nat.reduceMul, Nat.reduceLT, Nat.reduceSub, Nat.reduceLeDiff, Nat.reduceEqDiff, eq_self, reduceCtorEq, List.filter_nil, List.isEmpty_nil, bne_self_eq_false, Nat.zero_lt_succ, Nat.zero_le, Int.reduceToNat, decide_eq_true_eq, decide_eq_false_iff_not, Int.toNat_natCast]
      refine ⟨⟨by omega, _, rfl, hf⟩, ?_⟩
      by_cases hz : szTS l 1048576 < 0
      · rw [if_pos hz]
        exact ⟨_, [], rfl, ⟨⟨⟨rfl, rfl, rfl⟩, trivial⟩, trivial, by simp [rn]⟩⟩
      · rw [if_neg hz]
        have hb2 := szLeft_bd (l := szTS l 1048576) (n := xs.length) (by omega)
        refine ⟨⟨by omega, hn, _, rfl⟩, ?_⟩
        by_cases hz2 : szLeft (szTS l 1048576) xs.length < 0
        · rw [if_pos hz2]
          exact ⟨_, [], rfl, ⟨⟨⟨rfl, rfl, rfl⟩, trivial⟩, trivial, by simp [rn]⟩⟩
        · rw [if_neg hz2]
          have hx := hb2.2.2 (by omega)
          have hm := hb.2.2 (by omega)
          have hsT := szTS_sum (l := l) (L := 1048576) (by omega) (by omega)
          have hse := szTS_each (l := l) (L := 1048576) (by omega) (by omega)
          have hsT2 : sumT l ≤ 67108864 := by omega
          have hml : l.length ≤ 1048577 := by have := hm.1; omega
          have hmb : ∀ x ∈ l, x.ps.length ≤ 1048576 ∧ sumN x.ps ≤ 1048576 := fun x hx => ⟨(hm.2 x hx).1, hse x hx⟩
          obtain ⟨f1, f2⟩ := phF_bd (q := ⟨f, t, p, h, i, a, m, u, xs⟩) n hm hx
          have f3 := phF_sum (q := ⟨f, t, p, h, i, a, m, u, xs⟩) n hm hx
          have f4 := phP_len l ⟨f, t, p, h, i, a, m, u, xs⟩ n
          have fm : ptMid (phF l ⟨f, t, p, h, i, a, m, u, xs⟩ n) := ⟨by omega, fun x hx => (f2 x hx).1⟩
          have fl : (phF l ⟨f, t, p, h, i, a, m, u, xs⟩ n).length ≤ 1048577 := by omega
          have fs : sumT (phF l ⟨f, t, p, h, i, a, m, u, xs⟩ n) ≤ 67108864 := by omega
          have fb : ∀ x ∈ phF l ⟨f, t, p, h, i, a, m, u, xs⟩ n, x.ps.length ≤ 1048576 ∧ sumN x.ps ≤ 1048576 := fun x hx => ⟨(f2 x hx).1.1, by have := (f2 x hx).2; omega⟩
          have q1 := ptC_eq l 1
          have q2 := ptC_eq (phF l ⟨f, t, p, h, i, a, m, u, xs⟩ n) 1
          have dl : ((phF l ⟨f, t, p, h, i, a, m, u, xs⟩ n).drop 1).length ≤ 1048577 := by rw [List.length_drop]; omega
          have ds : sumT ((phF l ⟨f, t, p, h, i, a, m, u, xs⟩ n).drop 1) ≤ 67108864 := Nat.le_trans (sumT_drop _ 1) fs
          have db : ∀ x ∈ (phF l ⟨f, t, p, h, i, a, m, u, xs⟩ n).drop 1, x.ps.length ≤ 1048576 ∧ sumN x.ps ≤ 1048576 := fun x hx => fb x (List.mem_of_mem_drop hx)
          have dm : ptMid ((phF l ⟨f, t, p, h, i, a, m, u, xs⟩ n).drop 1) := ptMid_drop fm 1
          have q3 := ptC_eq ((phF l ⟨f, t, p, h, i, a, m, u, xs⟩ n).drop 1) 1
          clear hz hb hz2 hb2
          repeat' first
            | refine And.intro ⟨_, rfl, hm⟩ ?_
            | refine And.intro ⟨_, rfl, by omega⟩ ?_
            | refine And.intro ⟨⟨_, rfl, hm⟩, ⟨_, rfl, by omega⟩⟩ ?_
            | refine And.intro ⟨_, rfl, fm⟩ ?_
            | refine And.intro ⟨⟨_, rfl, hml, hsT2, hmb⟩, by omega, by omega⟩ ?_
            | refine And.intro ⟨⟨_, rfl⟩, by omega, by omega, by omega⟩ ?_
            | refine And.intro ⟨⟨_, rfl, fl, fs, fb⟩, by omega, by omega⟩ ?_
            | refine And.intro ⟨⟨_, rfl, fl, fs, fb, by omega, by omega⟩, by omega, by omega⟩ ?_
            | refine And.intro ⟨⟨_, rfl, dl, ds, db⟩, by omega, by omega⟩ ?_
            | refine And.intro ⟨by omega, by omega, by omega⟩ ?_
            | refine And.intro (by kernel_rfl) ?_
            | rw [if_neg (by omega)]
            | rw [if_pos (by omega)]
          exact ⟨_, [], rfl, ⟨⟨⟨rfl, rfl, rfl⟩, trivial⟩, trivial, by simp [rn]⟩⟩
    | true =>
      have h4 := phS_len hS
      have hT4 : List.take 4 (phF l ⟨f, t, p, h, i, a, m, u, xs⟩ n) = phF l ⟨f, t, p, h, i, a, m, u, xs⟩ n := List.take_of_length_le (by omega)
      have hD4 : ∀ c, List.drop 1 (List.take 4 (List.take 1 (phF l ⟨f, t, p, h, i, a, m, u, xs⟩ n) ++ ptL (List.drop 1 (phF l ⟨f, t, p, h, i, a, m, u, xs⟩ n)) c)) = ptL (List.drop 1 (phF l ⟨f, t, p, h, i, a, m, u, xs⟩ n)) c := fun c => by
        have l1 : (List.take 1 (phF l ⟨f, t, p, h, i, a, m, u, xs⟩ n)).length = 1 := by rw [List.length_take]; omega
        rw [List.take_of_length_le (by rw [List.length_append, l1, ptL_len, List.length_drop]; omega)]
        exact drop_left1 l1
      simp (maxSteps := 6000000) only [Try.f8, xph, g_szPacket, g_toPacket, g_eqPacket, g_markPacket, g_heldPacket, g_szPartS, g_toPartS, g_eqPartS, g_markPartS, g_heldPartS, g_sPartsHear, g_partsHear, ptsOf_rows, ptC_mk, bytesOf_rows, rowsOf_len, marks_len, bne_self_eq_false, and_self, decide_true, hS, ptRows_take, ptRows_drop, hT4, hD4, ↓reduceIte, tY24, tY29, Try.underlying4, e_skip, e_ret, e_seq, e_cond, e_region, seqK_normal, seqK_ret, condK_some, regK_true, regK_false, e_nil, e_cons, gateK_go, gateK_ask, pickK_some, exK_some, x_pick, x_move, x_assign, x_alloc, x_box, x_load, x_store, x_binOp, x_unOp, x_extract, x_call, callK_some, done_ret, ownAbs, uniq, idxOf, zipB, Blk.liveB, gate_none, gate_some, gateS_some, gateV_bool, boolOf, evA, putT, refn, fpD, oBin, oUn, upsl, upl, lk, dstsOf, resL, resA, packA, oLoadQ, oStoreQ, isTrP, oLoad, oStore, oAlloc, oBox, oExtract, nilV, putAt, AV.cells, AV.one, Value.oneCell', Value.cells, pureAbs, nrm, nrm.nrmL, hpAt, sh, AV.ren, AV.ren.renL, fpOf, footO, foot, blkIds, AV.ids, AV.ids.idsL, Op.operands, Call.operands, List.find?_cons, Nat.reduceBEq, beq_self_eq_true, List.map_cons, List.map_nil, List.getD_cons_zero, List.getD_cons_succ, List.set_cons_zero, List.set_cons_succ, List.length_cons, List.length_nil, List.replicate, List.cons_append, List.nil_append, List.append_nil, List.getElem?_cons_zero, List.getElem?_cons_succ, List.take_zero, List.take_succ_cons, List.take_nil, List.drop_zero, List.drop_succ_cons, List.drop_nil, List.flatMap_cons, List.flatMap_nil, List.toList_toArray, Array.toList_append, List.all_nil, List.all_cons, Bool.and_self, true_and, and_true, ↓reduceIte, Bool.false_eq_true, Bool.true_eq_false, Bool.not_true, Bool.not_false, and_self, decide_true, Nat.reduceAdd, Nat.reduceMul, Nat.reduceLT, Nat.reduceSub, Nat.reduceLeDiff, Nat.reduceEqDiff, eq_self, reduceCtorEq, List.filter_nil, List.isEmpty_nil, bne_self_eq_false, Nat.zero_lt_succ, Nat.zero_le, Int.reduceToNat, decide_eq_true_eq, decide_eq_false_iff_not, Int.toNat_natCast]
      refine ⟨⟨by omega, _, rfl, hf⟩, ?_⟩
      by_cases hz : szTS l 1048576 < 0
      · rw [if_pos hz]
        exact ⟨_, [], rfl, ⟨⟨⟨rfl, rfl, rfl⟩, trivial⟩, trivial, by simp [rn]⟩⟩
      · rw [if_neg hz]
        have hb2 := szLeft_bd (l := szTS l 1048576) (n := xs.length) (by omega)
        refine ⟨⟨by omega, hn, _, rfl⟩, ?_⟩
        by_cases hz2 : szLeft (szTS l 1048576) xs.length < 0
        · rw [if_pos hz2]
          exact ⟨_, [], rfl, ⟨⟨⟨rfl, rfl, rfl⟩, trivial⟩, trivial, by simp [rn]⟩⟩
        · rw [if_neg hz2]
          have hx := hb2.2.2 (by omega)
          have hm := hb.2.2 (by omega)
          have hsT := szTS_sum (l := l) (L := 1048576) (by omega) (by omega)
          have hse := szTS_each (l := l) (L := 1048576) (by omega) (by omega)
          have hsT2 : sumT l ≤ 67108864 := by omega
          have hml : l.length ≤ 1048577 := by have := hm.1; omega
          have hmb : ∀ x ∈ l, x.ps.length ≤ 1048576 ∧ sumN x.ps ≤ 1048576 := fun x hx => ⟨(hm.2 x hx).1, hse x hx⟩
          obtain ⟨f1, f2⟩ := phF_bd (q := ⟨f, t, p, h, i, a, m, u, xs⟩) n hm hx
          have f3 := phF_sum (q := ⟨f, t, p, h, i, a, m, u, xs⟩) n hm hx
          have f4 := phP_len l ⟨f, t, p, h, i, a, m, u, xs⟩ n
          have fm : ptMid (phF l ⟨f, t, p, h, i, a, m, u, xs⟩ n) := ⟨by omega, fun x hx => (f2 x hx).1⟩
          have fl : (phF l ⟨f, t, p, h, i, a, m, u, xs⟩ n).length ≤ 1048577 := by omega
          have fs : sumT (phF l ⟨f, t, p, h, i, a, m, u, xs⟩ n) ≤ 67108864 := by omega
          have fb : ∀ x ∈ phF l ⟨f, t, p, h, i, a, m, u, xs⟩ n, x.ps.length ≤ 1048576 ∧ sumN x.ps ≤ 1048576 := fun x hx => ⟨(f2 x hx).1.1, by have := (f2 x hx).2; omega⟩
          have q1 := ptC_eq l 1
          have q2 := ptC_eq (phF l ⟨f, t, p, h, i, a, m, u, xs⟩ n) 1
          have dl : ((phF l ⟨f, t, p, h, i, a, m, u, xs⟩ n).drop 1).length ≤ 1048577 := by rw [List.length_drop]; omega
          have ds : sumT ((phF l ⟨f, t, p, h, i, a, m, u, xs⟩ n).drop 1) ≤ 67108864 := Nat.le_trans (sumT_drop _ 1) fs
          have db : ∀ x ∈ (phF l ⟨f, t, p, h, i, a, m, u, xs⟩ n).drop 1, x.ps.length ≤ 1048576 ∧ sumN x.ps ≤ 1048576 := fun x hx => fb x (List.mem_of_mem_drop hx)
          have dm : ptMid ((phF l ⟨f, t, p, h, i, a, m, u, xs⟩ n).drop 1) := ptMid_drop fm 1
          have q3 := ptC_eq ((phF l ⟨f, t, p, h, i, a, m, u, xs⟩ n).drop 1) 1
          clear hz hb hz2 hb2
          repeat' first
            | refine And.intro ⟨_, rfl, hm⟩ ?_
            | refine And.intro ⟨_, rfl, by omega⟩ ?_
            | refine And.intro ⟨⟨_, rfl, hm⟩, ⟨_, rfl, by omega⟩⟩ ?_
            | refine And.intro ⟨_, rfl, dm⟩ ?_
            | refine And.intro ⟨⟨_, rfl, hml, hsT2, hmb⟩, by omega, by omega⟩ ?_
            | refine And.intro ⟨⟨_, rfl⟩, by omega, by omega, by omega⟩ ?_
            | refine And.intro ⟨⟨_, rfl, fl, fs, fb⟩, by omega, by omega⟩ ?_
            | refine And.intro ⟨⟨_, rfl, fl, fs, fb, by omega, by omega⟩, by omega, by omega⟩ ?_
            | refine And.intro ⟨⟨_, rfl, dl, ds, db⟩, by omega, by omega⟩ ?_
            | refine And.intro ⟨by omega, by omega, by omega⟩ ?_
            | refine And.intro (by kernel_rfl) ?_
            | rw [if_neg (by omega)]
            | rw [if_pos (by omega)]
          exact ⟨_, [], rfl, ⟨⟨⟨rfl, rfl, rfl⟩, trivial⟩, trivial, by simp [rn]⟩⟩
  · cases hg
theorem walk_ExactPartsHear (c : Value) (ds : List D) (cs : Array Value) (ds' : List D) (x : Int) (w : World) (H : Reads w partSKinds ds [c]) (H' : Reads w packetKinds ds' cs.toList) (_ : (Lit.int .i64 x).wf = true) :
    Calls Try.prog 8 #[c, .agg cs, .int .i64 x] w fun e w' => e = .returned (.bool true) ∧ Below w.heap.size w w' := by
  obtain ⟨l, hr, hf⟩ := parts_in H
  obtain ⟨f, t, p, h, i, a, m, u, xs, hr', hf'⟩ := packet_in H'
  exact lawExactPartsHear_ok.walk (vs := [_, _, _]) (arel_cons hr (arel_cons hr' (arel_cons (.v _) arel_nil))) rfl ⟨⟨_, rfl, hf⟩, by rw [rowsOf_len]; exact hf', _, rfl⟩
end Go.Proofs.Ytloffpgdclbkhaa
