import Derived.Test.YtloffpgdclbkhaaXf
import Derived.Test.YtloffpgdclbkhaaVd
import Derived.Test.YtloffpgdclbkhaaTp
namespace Go.Proofs.Ytloffpgdclbkhaa
open Go.RowKit
set_option linter.unusedSimpArgs false
set_option linter.unusedVariables false

/-! the helpers of the exact laws, over pieces and parts -/
def szF {α : Type} (f : α → Int → Int) : List α → Int → Int
  | [], l => l
  | x :: t, l => if f x l < 0 then -1 else szF f t (f x l)
theorem szF_bd {α : Type} {f : α → Int → Int} {P : α → Prop} : ∀ (xs : List α), (∀ x ∈ xs, ∀ l, 0 ≤ l ∧ l ≤ 1048576 → -1 ≤ f x l ∧ f x l ≤ 1048576 ∧ (0 ≤ f x l → P x)) → ∀ l, 0 ≤ l ∧ l ≤ 1048576 → -1 ≤ szF f xs l ∧ szF f xs l ≤ 1048576 ∧ (0 ≤ szF f xs l → ∀ x ∈ xs, P x)
  | [], _, l, hl => ⟨by simp [szF]; omega, by simp [szF]; omega, fun _ x hx => by cases hx⟩
  | x :: t, hf, l, hl => by
    obtain ⟨b1, b2, b3⟩ := hf x (List.mem_cons_self ..) l hl
    simp only [szF]
    split
    · exact ⟨by omega, by omega, fun h => by omega⟩
    · obtain ⟨h1, h2, h3⟩ := szF_bd t (fun y hy => hf y (List.mem_cons_of_mem _ hy)) (f x l) (by omega)
      refine ⟨h1, h2, fun h0 y hy => ?_⟩
      rcases List.mem_cons.1 hy with rfl | hy
      · exact b3 (by omega)
      · exact h3 h0 y hy
def szP (x : Pk) (l : Int) : Int := szLeft l x.d.length
def szPS (ps : List Pk) (l : Int) : Int := if szLeft l ps.length < 0 then -1 else szF szP ps (szLeft l ps.length)
def szT (x : Pt) (l : Int) : Int := szPS x.ps l
def szTS (xs : List Pt) (l : Int) : Int := if szLeft l xs.length < 0 then -1 else szF szT xs (szLeft l xs.length)
def pFin (ps : List Pk) : Prop := ps.length ≤ 9223372036854775807 ∧ ∀ x ∈ ps, x.d.length ≤ 9223372036854775807
def ptFin (l : List Pt) : Prop := l.length ≤ 9223372036854775807 ∧ ∀ x ∈ l, pFin x.ps
theorem szPS_bd (ps : List Pk) (l : Int) (hl : 0 ≤ l ∧ l ≤ 1048576) : -1 ≤ szPS ps l ∧ szPS ps l ≤ 1048576 ∧ (0 ≤ szPS ps l → pMid ps) := by
  have hb := szLeft_bd (n := ps.length) hl
  unfold szPS
  split
  · exact ⟨by omega, by omega, fun h => by omega⟩
  · obtain ⟨h1, h2, h3⟩ := szF_bd (f := szP) (P := fun x => x.d.length ≤ 1048576) ps (fun x _ l hl => by
      have := szLeft_bd (n := x.d.length) hl
      simp only [szP]
      omega) (szLeft l ps.length) (by omega)
    exact ⟨h1, h2, fun h0 => ⟨by omega, h3 h0⟩⟩
theorem szTS_bd (xs : List Pt) (l : Int) (hl : 0 ≤ l ∧ l ≤ 1048576) : -1 ≤ szTS xs l ∧ szTS xs l ≤ 1048576 ∧ (0 ≤ szTS xs l → ptMid xs) := by
  have hb := szLeft_bd (n := xs.length) hl
  unfold szTS
  split
  · exact ⟨by omega, by omega, fun h => by omega⟩
  · obtain ⟨h1, h2, h3⟩ := szF_bd (f := szT) (P := fun x => pMid x.ps) xs (fun x _ l hl => szPS_bd x.ps l hl) (szLeft l xs.length) (by omega)
    exact ⟨h1, h2, fun h0 => ⟨by omega, h3 h0⟩⟩
def g_szPacketS : PC := fun args => match args with
  | [.l _ rows, .v (.int .i64 l)] => some ((0 ≤ l ∧ l ≤ 1048576) ∧ ∃ ps, rows = pRows ps ∧ pFin ps, .v (.int .i64 (szPS (psOf rows) l)), [])
  | _ => none
def g_szPart : PC := fun args => match args with
  | [.agg [.l _ rows, .v (.int .i64 u)], .v (.int .i64 l)] => some ((0 ≤ l ∧ l ≤ 1048576) ∧ ∃ ps, rows = pRows ps ∧ pFin ps, .v (.int .i64 (szPS (psOf rows) l)), [])
  | _ => none
def g_szPartS : PC := fun args => match args with
  | [.l _ rows, .v (.int .i64 l)] => some ((0 ≤ l ∧ l ≤ 1048576) ∧ ∃ xs, rows = ptRows xs ∧ ptFin xs, .v (.int .i64 (szTS (ptsOf rows) l)), [])
  | _ => none
def zps : List (FuncId × Abs) := [(9, pureAbs g_szPacket)]
theorem zps_ok : ∀ p ∈ zps, CallOk Try.prog p.1 p.2 := by
  intro p hp
  simp only [zps, List.mem_cons, List.not_mem_nil, or_false] at hp
  rcases hp with rfl
  · exact szPacket_ok.call
set_option maxRecDepth 100000 in
theorem szPacketS_ok : PureOk Try.prog 50 g_szPacketS := by
  refine PureOk.of_vc (G := zps) zps_ok mixed Try.func50 (by kernel_rfl) rfl ?_
  intro args cnd r bs hg hc
  unfold g_szPacketS at hg
  split at hg
  · rename_i sz rows l0
    cases hg
    obtain ⟨hl, ps, rfl, hf1, hf2⟩ := hc
    rw [psOf_rows]
    have hb := szLeft_bd (n := ps.length) hl
    have e0 := szLeft_eq hl hf1
    have w0 : IntKind.i64.wrap (l0 - (ps.length : Int)) = l0 - (ps.length : Int) := wrap_id (by omega) (by omega)
    refine ⟨⟨rfl, by simp, by simp [AV.ids]⟩, [.l 9 (pRows ps), .v (.int .i64 l0)], rfl, fun w vs h => CvL.ok (.cons (.l _ _ _ (pRows_w ps)) (.cons (.refl _) .nil)) h, ?_⟩
    simp (maxSteps := 3000000) only [Try.f50, zps, pRows_len, w0, Try.underlying36, e_skip, e_ret, e_seq, e_cond, e_block, e_region, seqK_normal, seqK_ret, condK_some, regK_false, e_nil, e_cons, gateK_go, exK_some, x_move, x_assign, x_binOp, x_len, done_ret, gate_none, boolOf, evA, putT, refn, fpD, oBin, upsl, dstsOf, resL, resA, packA, oLen, lenOf, hpAt, List.map_cons, List.map_nil, List.getD_cons_zero, List.getD_cons_succ, List.set_cons_zero, List.set_cons_succ, List.length_cons, List.length_nil, List.replicate, List.cons_append, List.nil_append, List.all_nil, true_and, ↓reduceIte, Bool.false_eq_true, Nat.reduceAdd, Nat.reduceMul, Nat.reduceSub, eq_self, decide_eq_true_eq]
    rw [w0] at e0
    by_cases h0 : l0 - (ps.length : Int) < 0
    · rw [if_pos h0]
      rw [if_pos h0] at e0
      have e : szPS ps l0 = -1 := by rw [szPS, e0]; rfl
      rw [e]
      exact ⟨_, [], rfl, ⟨⟨⟨rfl, rfl, rfl⟩, trivial⟩, trivial, by simp [rn]⟩⟩
    · rw [if_neg h0]
      rw [if_neg h0] at e0
      have e : szPS ps l0 = szF szP ps (l0 - ps.length) := by rw [szPS, e0, if_neg h0]
      rw [e]
      refine e_loop _ _ _ _ _ _ _ _ (fun x : Nat × Int => [.l 9 (pRows ps), .v (.int .i64 x.2), .any, .any, .any, .v (.int .i64 (x.1 : Int))] ++ List.replicate (Try.f50.ntmps - 6) .any) (fun x => []) (fun x => x.1 ≤ ps.length ∧ (0 ≤ x.2 ∧ x.2 ≤ 1048576) ∧ szF szP ps (l0 - ps.length) = szF szP (ps.drop x.1) x.2) (fun x => ps.length - x.1) 0 (fun x => by simp) ?_ fun x hk' => ?_
      · exact ⟨(0, l0 - ps.length), [], ⟨Nat.zero_le _, ⟨by dsimp only; omega, by dsimp only; omega⟩, rfl⟩, ⟨⟨⟨rfl, rfl, rfl⟩, ⟨rfl, rfl, rfl⟩, trivial, trivial, trivial, ⟨rfl, rfl, rfl⟩, fitT_rep _ _ rfl⟩, trivial, by simp [rn]⟩, by simp [keepIds]⟩
      obtain ⟨k, m⟩ := x
      obtain ⟨hk1, hm, hinv⟩ := hk'
      dsimp only at hk1 hm hinv
      have w2 : IntKind.i64.wrap ((k : Int) + 1) = ((k + 1 : Nat) : Int) := by rw [wrap_id] <;> omega
      by_cases hk : k < ps.length
      · have hrow := pRows_get ps k hk
        have hlt : ((k : Int) < (ps.length : Int)) = True := eq_true (by omega)
        have h0 : (0 ≤ (k : Int)) = True := eq_true (by omega)
        have hfk := hf2 ps[k] (List.getElem_mem hk)
        have hb2 := szLeft_bd (n := ps[k].d.length) hm
        rw [drop_at _ _ hk, szF] at hinv
        simp (maxSteps := 3000000) only [Try.f50, pRows_len, rowsOf_len, g_szPacket, hrow, hlt, h0, D.toI, D.toB, D.toL, pRow, tY24, Try.underlying36, e_skip, e_ret, e_seq, e_cond, e_block, e_region, seqK_normal, seqK_ret, blkK_normal, blkK_ret, condK_some, regK_false, e_nil, e_cons, gateK_go, exK_some, x_move, x_assign, x_load, x_binOp, x_indexAddr, x_call, x_len, callK_some, done_ret, gate_none, boolOf, evA, putT, refn, fpD, oBin, upsl, lk, dstsOf, resL, resA, packA, oLoadQ, isTrP, D.toL, oLoad, oIndexAddr, oLen, rowLoad, lenOf, nilV, views, viewsOk, CK.av, CK.ok, pureAbs, nrm, nrm.nrmL, hpAt, AV.ren, List.find?_cons, beq_self_eq_true, List.map_cons, List.map_nil, List.getD_cons_zero, List.getD_cons_succ, List.set_cons_zero, List.set_cons_succ, List.length_cons, List.length_nil, List.replicate, List.cons_append, List.nil_append, List.headD_cons, List.tail_cons, List.all_nil, true_and, ↓reduceIte, Bool.false_eq_true, and_self, decide_true, Nat.reduceAdd, Nat.reduceMul, Nat.reduceSub, eq_self, ne_eq, not_false_eq_true, reduceCtorEq, Nat.zero_lt_succ, Nat.zero_le, decide_eq_true_eq, Int.toNat_natCast, loopK_normal, loopK_ret, w2]
        refine ⟨⟨hm, hfk, _, rfl⟩, ?_⟩
        by_cases hz : szLeft m ps[k].d.length < 0
        · rw [if_pos hz]
          rw [if_pos (show szP ps[k] m < 0 from hz)] at hinv
          rw [hinv]
          exact ⟨_, [], rfl, ⟨⟨⟨rfl, rfl, rfl⟩, trivial⟩, trivial, by simp [rn]⟩⟩
        · rw [if_neg hz]
          rw [if_neg (show ¬ szP ps[k] m < 0 from hz)] at hinv
          exact ⟨(k + 1, szLeft m ps[k].d.length), [], ⟨by dsimp only; omega, ⟨by dsimp only; omega, by dsimp only; omega⟩, hinv⟩, by dsimp only; omega, ⟨⟨⟨rfl, rfl, rfl⟩, ⟨rfl, rfl, rfl⟩, trivial, trivial, trivial, ⟨rfl, rfl, rfl⟩, fitT_rep _ _ rfl⟩, trivial, by simp [rn]⟩, by simp [keepIds]⟩
      · have hlt : ((k : Int) < (ps.length : Int)) = False := eq_false (by omega)
        simp (maxSteps := 3000000) only [Try.f50, pRows_len, hlt, Try.underlying36, e_ret, e_exit, e_seq, e_cond, e_region, seqK_normal, seqK_exit, blkK_exit, condK_some, regK_false, e_nil, e_cons, gateK_go, exK_some, x_move, x_assign, x_binOp, x_len, done_ret, gate_none, boolOf, evA, putT, refn, fpD, oBin, upsl, dstsOf, resL, resA, packA, oLen, lenOf, hpAt, List.map_cons, List.map_nil, List.getD_cons_zero, List.getD_cons_succ, List.set_cons_zero, List.set_cons_succ, List.length_cons, List.length_nil, List.replicate, List.cons_append, List.nil_append, List.all_nil, true_and, ↓reduceIte, Bool.false_eq_true, decide_false, Nat.reduceAdd, Nat.reduceMul, Nat.reduceSub, eq_self, loopK_exit]
        rw [List.drop_eq_nil_of_le (by omega), szF] at hinv
        rw [hinv]
        exact ⟨_, [], rfl, ⟨⟨⟨rfl, rfl, rfl⟩, trivial⟩, trivial, by simp [rn]⟩⟩
  · cases hg
def zpt : List (FuncId × Abs) := [(50, pureAbs g_szPacketS)]
theorem zpt_ok : ∀ p ∈ zpt, CallOk Try.prog p.1 p.2 := by
  intro p hp
  simp only [zpt, List.mem_cons, List.not_mem_nil, or_false] at hp
  rcases hp with rfl
  · exact szPacketS_ok.call
set_option maxRecDepth 100000 in
theorem szPart_ok : PureOk Try.prog 18 g_szPart := by
  refine PureOk.of_vc (G := zpt) zpt_ok mixed Try.func18 (by kernel_rfl) rfl ?_
  intro args cnd r bs hg hc
  unfold g_szPart at hg
  split at hg
  · rename_i sz rows u l0
    cases hg
    obtain ⟨hl, ps, rfl, hf⟩ := hc
    rw [psOf_rows]
    have hb := szPS_bd ps l0 hl
    refine ⟨⟨rfl, by simp, by simp [AV.ids]⟩, [.agg [.l 9 (pRows ps), .v (.int .i64 u)], .v (.int .i64 l0)], rfl, fun w vs h => CvL.ok (.cons (.cons (.l _ _ _ (pRows_w ps)) (.cons (.refl _) .nil)) (.cons (.refl _) .nil)) h, ?_⟩
    simp (maxSteps := 3000000) only [Try.f18, zpt, g_szPacketS, psOf_rows, tY36, tY38, e_skip, e_ret, e_seq, e_cond, e_region, seqK_normal, seqK_ret, condK_some, regK_false, e_nil, e_cons, gateK_go, exK_some, x_move, x_assign, x_box, x_load, x_binOp, x_fieldAddr, x_call, callK_some, done_ret, gate_none, boolOf, evA, putT, refn, fpD, oBin, upsl, upl, lk, dstsOf, resL, resA, packA, oLoadQ, isTrP, oLoad, oBox, oFieldAddr, nilV, AV.cells, AV.one, Value.oneCell', pureAbs, nrm, hpAt, AV.ren, List.find?_cons, beq_self_eq_true, List.map_cons, List.map_nil, List.getD_cons_zero, List.getD_cons_succ, List.set_cons_zero, List.set_cons_succ, List.length_cons, List.length_nil, List.replicate, List.cons_append, List.nil_append, List.getElem?_cons_zero, List.all_nil, List.all_cons, Bool.and_self, true_and, ↓reduceIte, Bool.false_eq_true, decide_true, Nat.reduceAdd, Nat.reduceMul, Nat.reduceSub, eq_self, reduceCtorEq, Nat.zero_lt_succ, Nat.zero_le, decide_eq_true_eq]
    refine ⟨⟨hl, _, rfl, hf⟩, ?_⟩
    by_cases hz : szPS ps l0 < 0
    · have e : szPS ps l0 = -1 := by omega
      rw [if_pos hz, e]
      exact ⟨_, [], rfl, ⟨⟨⟨rfl, rfl, rfl⟩, trivial⟩, trivial, by simp [rn]⟩⟩
    · rw [if_neg hz]
      exact ⟨_, [], rfl, ⟨⟨⟨rfl, rfl, rfl⟩, trivial⟩, trivial, by simp [rn]⟩⟩
  · cases hg
def zts : List (FuncId × Abs) := [(18, pureAbs g_szPart)]
theorem zts_ok : ∀ p ∈ zts, CallOk Try.prog p.1 p.2 := by
  intro p hp
  simp only [zts, List.mem_cons, List.not_mem_nil, or_false] at hp
  rcases hp with rfl
  · exact szPart_ok.call
set_option maxRecDepth 100000 in
theorem szPartS_ok : PureOk Try.prog 30 g_szPartS := by
  refine PureOk.of_vc (G := zts) zts_ok mixed Try.func30 (by kernel_rfl) rfl ?_
  intro args cnd r bs hg hc
  unfold g_szPartS at hg
  split at hg
  · rename_i sz rows l0
    cases hg
    obtain ⟨hl, l, rfl, hf1, hf2⟩ := hc
    rw [ptsOf_rows]
    have hb := szLeft_bd (n := l.length) hl
    have e0 := szLeft_eq hl hf1
    have w0 : IntKind.i64.wrap (l0 - (l.length : Int)) = l0 - (l.length : Int) := wrap_id (by omega) (by omega)
    refine ⟨⟨rfl, by simp, by simp [AV.ids]⟩, [.l 2 (ptRows l), .v (.int .i64 l0)], rfl, fun w vs h => CvL.ok (.cons (.l _ _ _ (ptRows_w l)) (.cons (.refl _) .nil)) h, ?_⟩
    simp (maxSteps := 3000000) only [Try.f30, zts, ptRows_len, w0, Try.underlying52, e_skip, e_ret, e_seq, e_cond, e_block, e_region, seqK_normal, seqK_ret, condK_some, regK_false, e_nil, e_cons, gateK_go, exK_some, x_move, x_assign, x_binOp, x_len, done_ret, gate_none, boolOf, evA, putT, refn, fpD, oBin, upsl, dstsOf, resL, resA, packA, oLen, lenOf, hpAt, List.map_cons, List.map_nil, List.getD_cons_zero, List.getD_cons_succ, List.set_cons_zero, List.set_cons_succ, List.length_cons, List.length_nil, List.replicate, List.cons_append, List.nil_append, List.all_nil, true_and, ↓reduceIte, Bool.false_eq_true, Nat.reduceAdd, Nat.reduceMul, Nat.reduceSub, eq_self, decide_eq_true_eq]
    rw [w0] at e0
    by_cases h0 : l0 - (l.length : Int) < 0
    · rw [if_pos h0]
      rw [if_pos h0] at e0
      have e : szTS l l0 = -1 := by rw [szTS, e0]; rfl
      rw [e]
      exact ⟨_, [], rfl, ⟨⟨⟨rfl, rfl, rfl⟩, trivial⟩, trivial, by simp [rn]⟩⟩
    · rw [if_neg h0]
      rw [if_neg h0] at e0
      have e : szTS l l0 = szF szT l (l0 - l.length) := by rw [szTS, e0, if_neg h0]
      rw [e]
      refine e_loop _ _ _ _ _ _ _ _ (fun x : Nat × Int => [.l 2 (ptRows l), .v (.int .i64 x.2), .any, .any, .any, .v (.int .i64 (x.1 : Int))] ++ List.replicate (Try.f30.ntmps - 6) .any) (fun x => []) (fun x => x.1 ≤ l.length ∧ (0 ≤ x.2 ∧ x.2 ≤ 1048576) ∧ szF szT l (l0 - l.length) = szF szT (l.drop x.1) x.2) (fun x => l.length - x.1) 0 (fun x => by simp) ?_ fun x hk' => ?_
      · exact ⟨(0, l0 - l.length), [], ⟨Nat.zero_le _, ⟨by dsimp only; omega, by dsimp only; omega⟩, rfl⟩, ⟨⟨⟨rfl, rfl, rfl⟩, ⟨rfl, rfl, rfl⟩, trivial, trivial, trivial, ⟨rfl, rfl, rfl⟩, fitT_rep _ _ rfl⟩, trivial, by simp [rn]⟩, by simp [keepIds]⟩
      obtain ⟨k, m⟩ := x
      obtain ⟨hk1, hm, hinv⟩ := hk'
      dsimp only at hk1 hm hinv
      have w2 : IntKind.i64.wrap ((k : Int) + 1) = ((k + 1 : Nat) : Int) := by rw [wrap_id] <;> omega
      by_cases hk : k < l.length
      · have hrow := ptRows_get l k hk
        have hlt : ((k : Int) < (l.length : Int)) = True := eq_true (by omega)
        have h0 : (0 ≤ (k : Int)) = True := eq_true (by omega)
        have hfk := hf2 l[k] (List.getElem_mem hk)
        have hb2 := szPS_bd l[k].ps m hm
        rw [drop_at _ _ hk, szF] at hinv
        simp (maxSteps := 3000000) only [Try.f30, ptRows_len, g_szPart, psOf_rows, hrow, hlt, h0, D.toI, D.toL, ptRow, tY38, Try.underlying52, e_skip, e_ret, e_seq, e_cond, e_block, e_region, seqK_normal, seqK_ret, blkK_normal, blkK_ret, condK_some, regK_false, e_nil, e_cons, gateK_go, exK_some, x_move, x_assign, x_load, x_binOp, x_indexAddr, x_call, x_len, callK_some, done_ret, gate_none, boolOf, evA, putT, refn, fpD, oBin, upsl, lk, dstsOf, resL, resA, packA, oLoadQ, isTrP, D.toL, oLoad, oIndexAddr, oLen, rowLoad, lenOf, nilV, views, viewsOk, CK.av, CK.ok, pureAbs, nrm, nrm.nrmL, hpAt, AV.ren, List.find?_cons, beq_self_eq_true, List.map_cons, List.map_nil, List.getD_cons_zero, List.getD_cons_succ, List.set_cons_zero, List.set_cons_succ, List.length_cons, List.length_nil, List.replicate, List.cons_append, List.nil_append, List.headD_cons, List.tail_cons, List.all_nil, true_and, ↓reduceIte, Bool.false_eq_true, and_self, decide_true, Nat.reduceAdd, Nat.reduceMul, Nat.reduceSub, eq_self, ne_eq, not_false_eq_true, reduceCtorEq, Nat.zero_lt_succ, Nat.zero_le, decide_eq_true_eq, Int.toNat_natCast, loopK_normal, loopK_ret, w2]
        refine ⟨⟨hm, _, rfl, hfk⟩, ?_⟩
        by_cases hz : szPS l[k].ps m < 0
        · rw [if_pos hz]
          rw [if_pos (show szT l[k] m < 0 from hz)] at hinv
          rw [hinv]
          exact ⟨_, [], rfl, ⟨⟨⟨rfl, rfl, rfl⟩, trivial⟩, trivial, by simp [rn]⟩⟩
        · rw [if_neg hz]
          rw [if_neg (show ¬ szT l[k] m < 0 from hz)] at hinv
          exact ⟨(k + 1, szPS l[k].ps m), [], ⟨by dsimp only; omega, ⟨by dsimp only; omega, by dsimp only; omega⟩, hinv⟩, by dsimp only; omega, ⟨⟨⟨rfl, rfl, rfl⟩, ⟨rfl, rfl, rfl⟩, trivial, trivial, trivial, ⟨rfl, rfl, rfl⟩, fitT_rep _ _ rfl⟩, trivial, by simp [rn]⟩, by simp [keepIds]⟩
      · have hlt : ((k : Int) < (l.length : Int)) = False := eq_false (by omega)
        simp (maxSteps := 3000000) only [Try.f30, ptRows_len, hlt, Try.underlying52, e_ret, e_exit, e_seq, e_cond, e_region, seqK_normal, seqK_exit, blkK_exit, condK_some, regK_false, e_nil, e_cons, gateK_go, exK_some, x_move, x_assign, x_binOp, x_len, done_ret, gate_none, boolOf, evA, putT, refn, fpD, oBin, upsl, dstsOf, resL, resA, packA, oLen, lenOf, hpAt, List.map_cons, List.map_nil, List.getD_cons_zero, List.getD_cons_succ, List.set_cons_zero, List.set_cons_succ, List.length_cons, List.length_nil, List.replicate, List.cons_append, List.nil_append, List.all_nil, true_and, ↓reduceIte, Bool.false_eq_true, decide_false, Nat.reduceAdd, Nat.reduceMul, Nat.reduceSub, eq_self, loopK_exit]
        rw [List.drop_eq_nil_of_le (by omega), szF] at hinv
        rw [hinv]
        exact ⟨_, [], rfl, ⟨⟨⟨rfl, rfl, rfl⟩, trivial⟩, trivial, by simp [rn]⟩⟩
  · cases hg
end Go.Proofs.Ytloffpgdclbkhaa

namespace Go.Proofs.Ytloffpgdclbkhaa
open Go.RowKit
set_option linter.unusedSimpArgs false
set_option linter.unusedVariables false

def pz : List D := [D.v (.int .i64 0), D.v (.int .i64 0), D.v (.int .i64 0), D.v (.int .i64 0), D.v (.int .i64 0), D.v (.int .i64 0), D.v (.bool false), D.v (.bool false), D.l 1 []]
def uz : List D := [D.l 9 [], D.v (.int .i64 0)]
theorem pk_seen (ps : List Pk) : SeenAs 9 [.cell, .cell, .cell, .cell, .cell, .cell, .cell, .cell, .sl 5 1 [.cell]] (List.replicate ps.length [D.v (.int .i64 0), D.v (.int .i64 0), D.v (.int .i64 0), D.v (.int .i64 0), D.v (.int .i64 0), D.v (.int .i64 0), D.v (.bool false), D.v (.bool false), D.v (.slice none 0 0)]) (pRows (ps.take 0) ++ List.replicate (ps.length - 0) pz) := by
  rw [List.take_zero, Nat.sub_zero]
  exact SeenAs.rep (n := ps.length) (b := pz) ⟨⟨rfl, _, rfl⟩, ⟨rfl, _, rfl⟩, ⟨rfl, _, rfl⟩, ⟨rfl, _, rfl⟩, ⟨rfl, _, rfl⟩, ⟨rfl, _, rfl⟩, ⟨rfl, _, rfl⟩, ⟨rfl, _, rfl⟩, ⟨rfl, rfl, by decide, rfl⟩, trivial⟩ rfl
theorem pt_seen (l : List Pt) : SeenAs 2 [.sl 29 9 [.cell, .cell, .cell, .cell, .cell, .cell, .cell, .cell, .sl 5 1 [.cell]], .cell] (List.replicate l.length [D.v (.slice none 0 0), D.v (.int .i64 0)]) (ptRows (l.take 0) ++ List.replicate (l.length - 0) uz) := by
  rw [List.take_zero, Nat.sub_zero]
  exact SeenAs.rep (n := l.length) (b := uz) ⟨⟨rfl, rfl, by decide, rfl⟩, ⟨rfl, _, rfl⟩, trivial⟩ rfl
def g_toPacketT : PC := fun args => match args with
  | [.agg [.v (.int .i64 f), .v (.int .i64 t), .v (.int .i64 p), .v (.int .i64 h), .v (.int .i64 i), .v (.int .i64 a), .v (.bool m), .v (.bool u), .l _ rows]] => some (∃ xs, rows = rowsOfBytes xs ∧ xs.length ≤ 140737488355328, .agg [.v (.int .i64 f), .v (.int .i64 t), .v (.int .i64 p), .v (.int .i64 h), .v (.int .i64 i), .v (.int .i64 a), .v (.bool m), .v (.bool u), .own 0], [.tr .whole 5 1 [.cell] rows])
  | _ => none
theorem toPacketT_ok : PureOk Try.prog 11 g_toPacketT := toPacket_ok.toTree fun args c r bs' h => by
  unfold g_toPacketT at h
  split at h
  · cases h; exact ⟨_, rfl, rfl⟩
  · cases h
def g_toPacketS : PC := fun args => match args with
  | [.l _ rows] => some (∃ ps, rows = pRows ps ∧ pMid ps, .own 0, [.tr .whole 29 9 [.cell, .cell, .cell, .cell, .cell, .cell, .cell, .cell, .sl 5 1 [.cell]] rows])
  | _ => none
def g_toPart : PC := fun args => match args with
  | [.agg [.l _ rows, .v (.int .i64 u)]] => some (∃ ps, rows = pRows ps ∧ pMid ps, .agg [.own 0, .v (.int .i64 u)], [.tr .whole 29 9 [.cell, .cell, .cell, .cell, .cell, .cell, .cell, .cell, .sl 5 1 [.cell]] rows])
  | _ => none
def g_toPartS : PC := fun args => match args with
  | [.l _ rows] => some (∃ l, rows = ptRows l ∧ ptMid l, .own 0, [.tr .whole 42 2 [.sl 29 9 [.cell, .cell, .cell, .cell, .cell, .cell, .cell, .cell, .sl 5 1 [.cell]], .cell] rows])
  | _ => none
def tps : List (FuncId × Abs) := [(11, pureAbs g_toPacketT)]
theorem tps_ok : ∀ p ∈ tps, CallOk Try.prog p.1 p.2 := by
  intro p hp
  simp only [tps, List.mem_cons, List.not_mem_nil, or_false] at hp
  rcases hp with rfl
  · exact toPacketT_ok.call
set_option maxRecDepth 100000 in
theorem toPacketS_ok : PureOk Try.prog 52 g_toPacketS := by
  refine PureOk.of_vc (G := tps) tps_ok mixed Try.func52 (by kernel_rfl) rfl ?_
  intro args cnd r bs hg hc
  unfold g_toPacketS at hg
  split at hg
  · rename_i sz rows
    cases hg
    obtain ⟨ps, rfl, hn, hd⟩ := hc
    refine ⟨⟨rfl, by simp [flatB], by simp [AV.ids]⟩, [.l 9 (pRows ps)], rfl, fun w vs h => CvL.ok (.cons (.l _ _ _ (pRows_w ps)) .nil) h, ?_⟩
    simp (maxSteps := 3000000) only [Try.f52, tps, pRows_len, tY29, Try.underlying26, Try.underlying36, e_seq, e_block, e_region, seqK_normal, regK_false, e_nil, e_cons, gateK_go, exK_some, x_move, x_assign, x_makeSlice, x_len, gate_none, evA, putT, fpD, upsl, upl, dstsOf, oMake, oLen, lenOf, Value.oneCell', Value.cells, List.map_cons, List.map_nil, List.getD_cons_zero, List.getD_cons_succ, List.set_cons_zero, List.set_cons_succ, List.length_cons, List.length_nil, List.replicate, List.cons_append, List.nil_append, List.toList_toArray, List.all_nil, List.all_cons, Bool.and_self, true_and, ↓reduceIte, List.size_toArray, Bool.false_eq_true, and_self, decide_true, Nat.reduceAdd, Nat.reduceMul, Nat.reduceLT, Nat.reduceSub, eq_self, Nat.zero_lt_succ, Int.toNat_natCast]
    refine ⟨by omega, ?_⟩
    refine e_loop _ _ _ _ _ _ _ _ (fun k : Nat => [.l 9 (pRows ps), .any, .any, .own 0, .v (.int .i64 (k : Int))] ++ List.replicate (Try.f52.ntmps - 5) .any) (fun k => [(0, .tr .whole 29 9 [.cell, .cell, .cell, .cell, .cell, .cell, .cell, .cell, .sl 5 1 [.cell]] (pRows (ps.take k) ++ List.replicate (ps.length - k) pz))]) (fun k => k ≤ ps.length) (fun k => ps.length - k) 1 (fun k => by simp) ?_ fun k hk' => ?_
    · exact ⟨0, [(0, some _)], Nat.zero_le _, ⟨⟨⟨rfl, rfl, rfl⟩, trivial, trivial, ⟨rfl, rfl, rfl⟩, ⟨rfl, rfl, rfl⟩, fitT_rep _ _ rfl⟩, ⟨.inr (.inr ⟨_, rfl, pk_seen ps⟩), rfl, rfl, rfl, trivial⟩, by simp [rn]⟩, by simp [keepIds]⟩
    have w2 : IntKind.i64.wrap ((k : Int) + 1) = ((k + 1 : Nat) : Int) := by rw [wrap_id] <;> omega
    by_cases hk : k < ps.length
    · have hrow := pRows_get ps k hk
      have hlt : ((k : Int) < (ps.length : Int)) = True := eq_true (by omega)
      have h0 : (0 ≤ (k : Int)) = True := eq_true (by omega)
      have hx := hd ps[k] (List.getElem_mem hk)
      have hln : (pRows (ps.take k) ++ List.replicate (ps.length - k) pz).length = ps.length := by rw [List.length_append, pRows_len, List.length_take, List.length_replicate]; omega
      have hdr : List.drop 9 ((pRows (ps.take k) ++ List.replicate (ps.length - k) pz).getD k []) = [] := by
        rw [List.getD_eq_getElem?_getD, List.getElem?_append_right (by rw [pRows_len, List.length_take]; omega), List.getElem?_replicate, if_pos (by rw [pRows_len, List.length_take]; omega)]
        rfl
      have hset : (pRows (ps.take k) ++ List.replicate (ps.length - k) pz).set k (pRow ps[k]) = pRows (ps.take (k + 1)) ++ List.replicate (ps.length - (k + 1)) pz := by
        rw [← pRows_take, ← pRows_take]
        exact fill_row (pRows_len ps).symm (by simp [pRows, hk]) _
      rw [pRow] at hset
      simp (maxSteps := 3000000) only [Try.f52, pRows_len, g_toPacketT, hrow, hlt, h0, hln, hdr, hset, D.toI, D.toB, D.toL, pRow, tY24, tY29, Try.underlying26, Try.underlying36, e_skip, e_seq, e_cond, e_block, e_region, seqK_normal, blkK_normal, condK_some, regK_false, e_nil, e_cons, gateK_go, exK_some, x_move, x_assign, x_load, x_store, x_binOp, x_indexAddr, x_call, x_len, callK_some, gate_none, boolOf, evA, putT, refn, fpD, oBin, upsl, upl, lk, dstsOf, oLoadQ, oStoreQ, oStoreTree, isTrP, tkd, tkds, ownOf, nodupB, deadL, D.toL, oLoad, oIndexAddr, oLen, rowLoad, lenOf, nilV, putAt, views, viewsOk, CK.av, CK.ok, AV.cells, AV.one, Value.oneCell', pureAbs, nrm, nrm.nrmL, hpAt, sh, AV.ren, AV.ren.renL, List.find?_cons, Nat.reduceBEq, beq_self_eq_true, List.map_cons, List.map_nil, List.getD_cons_zero, List.getD_cons_succ, List.set_cons_zero, List.set_cons_succ, List.length_cons, List.length_nil, List.replicate, List.cons_append, List.nil_append, List.append_nil, List.take_zero, List.take_succ_cons, List.take_nil, List.drop_zero, List.headD_cons, List.tail_cons, List.all_nil, List.all_cons, Bool.and_self, true_and, ↓reduceIte, Bool.false_eq_true, Bool.not_false, and_self, decide_true, Nat.reduceAdd, Nat.reduceMul, Nat.reduceLT, Nat.reduceSub, Nat.reduceLeDiff, eq_self, ne_eq, not_false_eq_true, reduceCtorEq, Nat.zero_lt_succ, List.filterMap_nil, List.filterMap_cons, List.contains_nil, List.contains_cons, Bool.or_false, Int.toNat_natCast, loopK_normal, w2]
      exact ⟨⟨_, rfl, by omega⟩, hk, k + 1, [(0, some _)], by omega, by omega, ⟨⟨⟨rfl, rfl, rfl⟩, trivial, trivial, ⟨rfl, rfl, rfl⟩, ⟨rfl, rfl, rfl⟩, fitT_rep _ _ rfl⟩, ⟨.inl rfl, rfl, rfl, rfl, trivial⟩, by simp [rn]⟩, by simp [keepIds]⟩
    · have hlt : ((k : Int) < (ps.length : Int)) = False := eq_false (by omega)
      simp (maxSteps := 3000000) only [Try.f52, pRows_len, hlt, Try.underlying36, e_ret, e_exit, e_seq, e_cond, e_region, seqK_normal, seqK_exit, blkK_exit, condK_some, regK_false, e_nil, e_cons, gateK_go, exK_some, x_move, x_assign, x_binOp, x_len, done_ret, gate_none, boolOf, evA, putT, refn, fpD, oBin, upsl, dstsOf, resL, resA, packA, oLen, lenOf, hpAt, List.map_cons, List.map_nil, List.getD_cons_zero, List.getD_cons_succ, List.set_cons_zero, List.set_cons_succ, List.length_cons, List.length_nil, List.replicate, List.cons_append, List.nil_append, List.all_nil, true_and, ↓reduceIte, Bool.false_eq_true, decide_false, Nat.reduceAdd, Nat.reduceMul, Nat.reduceSub, eq_self, loopK_exit]
      obtain rfl : k = ps.length := by omega
      have e : pRows (ps.take ps.length) ++ List.replicate (ps.length - ps.length) pz = pRows ps := by rw [List.take_length, Nat.sub_self]; simp
      rw [e]
      exact ⟨_, [(0, some _)], rfl, ⟨⟨⟨rfl, rfl, rfl⟩, trivial⟩, ⟨.inl rfl, rfl, rfl, rfl, trivial⟩, by simp [rn]⟩⟩
  · cases hg
def tpp : List (FuncId × Abs) := [(52, pureAbs g_toPacketS)]
theorem tpp_ok : ∀ p ∈ tpp, CallOk Try.prog p.1 p.2 := by
  intro p hp
  simp only [tpp, List.mem_cons, List.not_mem_nil, or_false] at hp
  rcases hp with rfl
  · exact toPacketS_ok.call
set_option maxRecDepth 100000 in
theorem toPart_ok : PureOk Try.prog 20 g_toPart := by
  refine PureOk.of_vc (G := tpp) tpp_ok mixed Try.func20 (by kernel_rfl) rfl ?_
  intro args cnd r bs hg hc
  unfold g_toPart at hg
  split at hg
  · rename_i sz rows u
    cases hg
    obtain ⟨ps, rfl, hm⟩ := hc
    refine ⟨⟨rfl, by simp [flatB], by simp [AV.ids, AV.ids.idsL]⟩, [.agg [.l 9 (pRows ps), .v (.int .i64 u)]], rfl, fun w vs h => CvL.ok (.cons (.cons (.l _ _ _ (pRows_w ps)) (.cons (.refl _) .nil)) .nil) h, ?_⟩
    simp (maxSteps := 3000000) only [Try.f20, tpp, g_toPacketS, tY3, tY26, tY36, tY38, tY42, e_ret, e_seq, e_region, seqK_normal, regK_false, e_nil, e_cons, gateK_go, exK_some, x_alloc, x_box, x_load, x_store, x_fieldAddr, x_call, callK_some, done_ret, gate_none, evA, putT, fpD, upsl, upl, lk, dstsOf, resL, resA, packA, oLoadQ, oStoreQ, isTrP, oLoad, oStore, oAlloc, oBox, oFieldAddr, putAt, AV.cells, AV.one, Value.oneCell', Value.cells, pureAbs, nrm, hpAt, sh, AV.ren, List.find?_cons, beq_self_eq_true, List.map_cons, List.map_nil, List.getD_cons_zero, List.getD_cons_succ, List.set_cons_zero, List.set_cons_succ, List.length_cons, List.length_nil, List.replicate, List.cons_append, List.nil_append, List.append_nil, List.getElem?_cons_zero, List.getElem?_cons_succ, List.take_zero, List.take_succ_cons, List.take_nil, List.drop_zero, List.drop_succ_cons, List.drop_nil, List.toList_toArray, List.all_nil, List.all_cons, Bool.and_self, true_and, ↓reduceIte, Bool.false_eq_true, and_self, decide_true, Nat.reduceAdd, Nat.reduceMul, Nat.reduceLT, Nat.reduceSub, Nat.reduceLeDiff, Nat.reduceEqDiff, eq_self, reduceCtorEq, Nat.lt_add_one, Nat.zero_lt_succ]
    exact ⟨⟨_, rfl, hm⟩, _, [(0, some _)], rfl, ⟨⟨⟨rfl, rfl, rfl⟩, trivial⟩, ⟨.inl rfl, rfl, rfl, rfl, trivial⟩, by simp [rn]⟩⟩
  · cases hg
def tpu : List (FuncId × Abs) := [(20, pureAbs g_toPart)]
theorem tpu_ok : ∀ p ∈ tpu, CallOk Try.prog p.1 p.2 := by
  intro p hp
  simp only [tpu, List.mem_cons, List.not_mem_nil, or_false] at hp
  rcases hp with rfl
  · exact toPart_ok.call
set_option maxRecDepth 100000 in
theorem toPartS_ok : PureOk Try.prog 32 g_toPartS := by
  refine PureOk.of_vc (G := tpu) tpu_ok mixed Try.func32 (by kernel_rfl) rfl ?_
  intro args cnd r bs hg hc
  unfold g_toPartS at hg
  split at hg
  · rename_i sz rows
    cases hg
    obtain ⟨l, rfl, hn, hd⟩ := hc
    refine ⟨⟨rfl, by simp [flatB], by simp [AV.ids]⟩, [.l 2 (ptRows l)], rfl, fun w vs h => CvL.ok (.cons (.l _ _ _ (ptRows_w l)) .nil) h, ?_⟩
    simp (maxSteps := 3000000) only [Try.f32, tpu, ptRows_len, tY42, Try.underlying52, Try.underlying55, e_seq, e_block, e_region, seqK_normal, regK_false, e_nil, e_cons, gateK_go, exK_some, x_move, x_assign, x_makeSlice, x_len, gate_none, evA, putT, fpD, upsl, upl, dstsOf, oMake, oLen, lenOf, Value.oneCell', Value.cells, List.map_cons, List.map_nil, List.getD_cons_zero, List.getD_cons_succ, List.set_cons_zero, List.set_cons_succ, List.length_cons, List.length_nil, List.replicate, List.cons_append, List.nil_append, List.toList_toArray, List.all_nil, List.all_cons, Bool.and_self, true_and, ↓reduceIte, List.size_toArray, Bool.false_eq_true, and_self, decide_true, Nat.reduceAdd, Nat.reduceMul, Nat.reduceLT, Nat.reduceSub, eq_self, Nat.zero_lt_succ, Int.toNat_natCast]
    refine ⟨by omega, ?_⟩
    refine e_loop _ _ _ _ _ _ _ _ (fun k : Nat => [.l 2 (ptRows l), .any, .any, .own 0, .v (.int .i64 (k : Int))] ++ List.replicate (Try.f32.ntmps - 5) .any) (fun k => [(0, .tr .whole 42 2 [.sl 29 9 [.cell, .cell, .cell, .cell, .cell, .cell, .cell, .cell, .sl 5 1 [.cell]], .cell] (ptRows (l.take k) ++ List.replicate (l.length - k) uz))]) (fun k => k ≤ l.length) (fun k => l.length - k) 1 (fun k => by simp) ?_ fun k hk' => ?_
    · exact ⟨0, [(0, some _)], Nat.zero_le _, ⟨⟨⟨rfl, rfl, rfl⟩, trivial, trivial, ⟨rfl, rfl, rfl⟩, ⟨rfl, rfl, rfl⟩, fitT_rep _ _ rfl⟩, ⟨.inr (.inr ⟨_, rfl, pt_seen l⟩), rfl, rfl, rfl, trivial⟩, by simp [rn]⟩, by simp [keepIds]⟩
    have w2 : IntKind.i64.wrap ((k : Int) + 1) = ((k + 1 : Nat) : Int) := by rw [wrap_id] <;> omega
    by_cases hk : k < l.length
    · have hrow := ptRows_get l k hk
      have hlt : ((k : Int) < (l.length : Int)) = True := eq_true (by omega)
      have h0 : (0 ≤ (k : Int)) = True := eq_true (by omega)
      have hx := hd l[k] (List.getElem_mem hk)
      have hln : (ptRows (l.take k) ++ List.replicate (l.length - k) uz).length = l.length := by rw [List.length_append, ptRows_len, List.length_take, List.length_replicate]; omega
      have hdr : List.drop 2 ((ptRows (l.take k) ++ List.replicate (l.length - k) uz).getD k []) = [] := by
        rw [List.getD_eq_getElem?_getD, List.getElem?_append_right (by rw [ptRows_len, List.length_take]; omega), List.getElem?_replicate, if_pos (by rw [ptRows_len, List.length_take]; omega)]
        rfl
      have hset : (ptRows (l.take k) ++ List.replicate (l.length - k) uz).set k (ptRow l[k]) = ptRows (l.take (k + 1)) ++ List.replicate (l.length - (k + 1)) uz := by
        rw [← ptRows_take, ← ptRows_take]
        exact fill_row (ptRows_len l).symm (by simp [ptRows, hk]) _
      rw [ptRow] at hset
      simp (maxSteps := 3000000) only [Try.f32, ptRows_len, g_toPart, hrow, hlt, h0, hln, hdr, hset, D.toI, D.toL, ptRow, tY38, tY42, Try.underlying52, Try.underlying55, e_skip, e_seq, e_cond, e_block, e_region, seqK_normal, blkK_normal, condK_some, regK_false, e_nil, e_cons, gateK_go, exK_some, x_move, x_assign, x_load, x_store, x_binOp, x_indexAddr, x_call, x_len, callK_some, gate_none, boolOf, evA, putT, refn, fpD, oBin, upsl, upl, lk, dstsOf, oLoadQ, oStoreQ, oStoreTree, isTrP, tkd, tkds, ownOf, nodupB, deadL, D.toL, oLoad, oIndexAddr, oLen, rowLoad, lenOf, nilV, putAt, views, viewsOk, CK.av, CK.ok, AV.cells, AV.one, Value.oneCell', pureAbs, nrm, nrm.nrmL, hpAt, sh, AV.ren, AV.ren.renL, List.find?_cons, Nat.reduceBEq, beq_self_eq_true, List.map_cons, List.map_nil, List.getD_cons_zero, List.getD_cons_succ, List.set_cons_zero, List.set_cons_succ, List.length_cons, List.length_nil, List.replicate, List.cons_append, List.nil_append, List.append_nil, List.take_zero, List.take_succ_cons, List.take_nil, List.drop_zero, List.headD_cons, List.tail_cons, List.all_nil, List.all_cons, Bool.and_self, true_and, ↓reduceIte, Bool.false_eq_true, Bool.not_false, and_self, decide_true, Nat.reduceAdd, Nat.reduceMul, Nat.reduceLT, Nat.reduceSub, Nat.reduceLeDiff, eq_self, ne_eq, not_false_eq_true, reduceCtorEq, Nat.zero_lt_succ, List.filterMap_nil, List.filterMap_cons, List.contains_nil, List.contains_cons, Bool.or_false, Int.toNat_natCast, loopK_normal, w2]
      exact ⟨⟨_, rfl, hx⟩, hk, k + 1, [(0, some _)], by omega, by omega, ⟨⟨⟨rfl, rfl, rfl⟩, trivial, trivial, ⟨rfl, rfl, rfl⟩, ⟨rfl, rfl, rfl⟩, fitT_rep _ _ rfl⟩, ⟨.inl rfl, rfl, rfl, rfl, trivial⟩, by simp [rn]⟩, by simp [keepIds]⟩
    · have hlt : ((k : Int) < (l.length : Int)) = False := eq_false (by omega)
      simp (maxSteps := 3000000) only [Try.f32, ptRows_len, hlt, Try.underlying52, e_ret, e_exit, e_seq, e_cond, e_region, seqK_normal, seqK_exit, blkK_exit, condK_some, regK_false, e_nil, e_cons, gateK_go, exK_some, x_move, x_assign, x_binOp, x_len, done_ret, gate_none, boolOf, evA, putT, refn, fpD, oBin, upsl, dstsOf, resL, resA, packA, oLen, lenOf, hpAt, List.map_cons, List.map_nil, List.getD_cons_zero, List.getD_cons_succ, List.set_cons_zero, List.set_cons_succ, List.length_cons, List.length_nil, List.replicate, List.cons_append, List.nil_append, List.all_nil, true_and, ↓reduceIte, Bool.false_eq_true, decide_false, Nat.reduceAdd, Nat.reduceMul, Nat.reduceSub, eq_self, loopK_exit]
      obtain rfl : k = l.length := by omega
      have e : ptRows (l.take l.length) ++ List.replicate (l.length - l.length) uz = ptRows l := by rw [List.take_length, Nat.sub_self]; simp
      rw [e]
      exact ⟨_, [(0, some _)], rfl, ⟨⟨⟨rfl, rfl, rfl⟩, trivial⟩, ⟨.inl rfl, rfl, rfl, rfl, trivial⟩, by simp [rn]⟩⟩
  · cases hg
end Go.Proofs.Ytloffpgdclbkhaa

namespace Go.Proofs.Ytloffpgdclbkhaa
open Go.RowKit
set_option linter.unusedSimpArgs false
set_option linter.unusedVariables false

theorem Pk_eq (x y : Pk) : x = y ↔ x.f = y.f ∧ x.t = y.t ∧ x.p = y.p ∧ x.h = y.h ∧ x.i = y.i ∧ x.a = y.a ∧ x.m = y.m ∧ x.u = y.u ∧ x.d = y.d := by
  cases x; cases y; simp
theorem Pt_eq (x y : Pt) : x = y ↔ x.ps = y.ps ∧ x.u = y.u := by
  cases x; cases y; simp
instance : DecidableEq Pk := fun x y => decidable_of_iff _ (Pk_eq x y).symm
instance : DecidableEq Pt := fun x y => decidable_of_iff _ (Pt_eq x y).symm
theorem take_eq {α : Type} {a b : List α} {k : Nat} (ha : k < a.length) (hb : k < b.length) : a.take (k + 1) = b.take (k + 1) ↔ a.take k = b.take k ∧ a[k] = b[k] := by
  rw [List.take_add_one, List.take_add_one, List.getElem?_eq_getElem ha, List.getElem?_eq_getElem hb]
  constructor
  · intro h
    have h1 := List.append_inj h (by rw [List.length_take, List.length_take]; omega)
    exact ⟨h1.1, by simpa using h1.2⟩
  · rintro ⟨h1, h2⟩
    rw [h1, h2]
def g_eqPacketS : PC := fun args => match args with
  | [.l _ rows, .l _ rows'] => some ((∃ ps, rows = pRows ps ∧ pMid ps) ∧ ∃ qs, rows' = pRows qs ∧ pMid qs, .v (.bool (decide (psOf rows = psOf rows'))), [])
  | _ => none
def g_eqPart : PC := fun args => match args with
  | [.agg [.l _ rows, .v (.int .i64 u)], .agg [.l _ rows', .v (.int .i64 u')]] => some ((∃ ps, rows = pRows ps ∧ pMid ps) ∧ ∃ qs, rows' = pRows qs ∧ pMid qs, .v (.bool (decide (psOf rows = psOf rows' ∧ u = u'))), [])
  | _ => none
def g_eqPartS : PC := fun args => match args with
  | [.l _ rows, .l _ rows'] => some ((∃ l, rows = ptRows l ∧ ptMid l) ∧ ∃ r, rows' = ptRows r ∧ ptMid r, .v (.bool (decide (ptsOf rows = ptsOf rows'))), [])
  | _ => none
def eps : List (FuncId × Abs) := [(14, pureAbs g_eqPacket)]
theorem eps_ok : ∀ p ∈ eps, CallOk Try.prog p.1 p.2 := by
  intro p hp
  simp only [eps, List.mem_cons, List.not_mem_nil, or_false] at hp
  rcases hp with rfl
  · exact eqPacket_ok.call
set_option maxRecDepth 100000 in
theorem eqPacketS_ok : PureOk Try.prog 13 g_eqPacketS := by
  refine PureOk.of_vc (G := eps) eps_ok mixed Try.func13 (by kernel_rfl) rfl ?_
  intro args cnd r bs hg hc
  unfold g_eqPacketS at hg
  split at hg
  · rename_i sz rows sz' rows'
    cases hg
    obtain ⟨⟨ps, rfl, hn, hd⟩, qs, rfl, hn', hd'⟩ := hc
    rw [psOf_rows, psOf_rows]
    have no : ps ≠ qs → (decide (ps = qs)) = false := fun e => by simp [e]
    refine ⟨⟨rfl, by simp, by simp [AV.ids]⟩, [.l 9 (pRows ps), .l 9 (pRows qs)], rfl, fun w vs h => CvL.ok (.cons (.l _ _ _ (pRows_w ps)) (.cons (.l _ _ _ (pRows_w qs)) .nil)) h, ?_⟩
    simp (maxSteps := 3000000) only [Try.f13, eps, pRows_len, Try.underlying26, e_skip, e_ret, e_seq, e_cond, e_block, e_region, seqK_normal, seqK_ret, condK_some, regK_false, e_nil, e_cons, gateK_go, exK_some, x_move, x_assign, x_binOp, x_len, done_ret, gate_none, boolOf, evA, putT, refn, fpD, oBin, upsl, dstsOf, resL, resA, packA, oLen, lenOf, hpAt, List.map_cons, List.map_nil, List.getD_cons_zero, List.getD_cons_succ, List.set_cons_zero, List.set_cons_succ, List.length_cons, List.length_nil, List.replicate, List.cons_append, List.nil_append, List.all_nil, true_and, ↓reduceIte, Bool.false_eq_true, Nat.reduceAdd, Nat.reduceMul, Nat.reduceSub, eq_self]
    by_cases hll : ps.length = qs.length
    · rw [if_neg (by simp [hll])]
      refine e_loop _ _ _ _ _ _ _ _ (fun k : Nat => [.l 9 (pRows ps), .l 9 (pRows qs), .any, .any, .any, .v (.int .i64 (k : Int))] ++ List.replicate (Try.f13.ntmps - 6) .any) (fun k => []) (fun k => k ≤ ps.length ∧ ps.take k = qs.take k) (fun k => ps.length - k) 0 (fun k => by simp) ?_ fun k hk' => ?_
      · exact ⟨0, [], ⟨Nat.zero_le _, rfl⟩, ⟨⟨⟨rfl, rfl, rfl⟩, ⟨rfl, rfl, rfl⟩, trivial, trivial, trivial, ⟨rfl, rfl, rfl⟩, fitT_rep _ _ rfl⟩, trivial, by simp [rn]⟩, by simp [keepIds]⟩
      obtain ⟨hk1, hk2⟩ := hk'
      have w2 : IntKind.i64.wrap ((k : Int) + 1) = ((k + 1 : Nat) : Int) := by rw [wrap_id] <;> omega
      by_cases hk : k < ps.length
      · have hky : k < qs.length := by omega
        have hrow := pRows_get ps k hk
        have hrow' := pRows_get qs k hky
        have hlt : ((k : Int) < (ps.length : Int)) = True := eq_true (by omega)
        have hlt' : ((k : Int) < (qs.length : Int)) = True := eq_true (by omega)
        have h0 : (0 ≤ (k : Int)) = True := eq_true (by omega)
        have hx := hd ps[k] (List.getElem_mem hk)
        have hx' := hd' qs[k] (List.getElem_mem hky)
        have hte := take_eq hk hky
        simp (maxSteps := 3000000) only [Try.f13, pRows_len, bytesOf_rows, g_eqPacket, hrow, hrow', hlt, hlt', h0, D.toI, D.toB, D.toL, pRow, tY29, Try.underlying26, e_skip, e_ret, e_seq, e_cond, e_block, e_region, seqK_normal, seqK_ret, blkK_normal, blkK_ret, condK_some, regK_true, regK_false, e_nil, e_cons, gateK_go, exK_some, x_move, x_assign, x_load, x_binOp, x_unOp, x_indexAddr, x_call, x_len, callK_some, done_ret, gate_none, boolOf, evA, putT, refn, fpD, oBin, oUn, upsl, lk, dstsOf, resL, resA, packA, oLoadQ, isTrP, D.toL, oLoad, oIndexAddr, oLen, rowLoad, lenOf, nilV, views, viewsOk, CK.av, CK.ok, pureAbs, nrm, nrm.nrmL, hpAt, AV.ren, fpOf, footO, foot, blkIds, AV.ids, AV.ids.idsL, Op.operands, Call.operands, List.find?_cons, beq_self_eq_true, List.map_cons, List.map_nil, List.getD_cons_zero, List.getD_cons_succ, List.set_cons_zero, List.set_cons_succ, List.length_cons, List.length_nil, List.replicate, List.cons_append, List.nil_append, List.append_nil, List.headD_cons, List.tail_cons, List.flatMap_nil, List.toList_toArray, Array.toList_append, List.all_nil, true_and, ↓reduceIte, Bool.false_eq_true, and_self, decide_true, Nat.reduceAdd, Nat.reduceMul, Nat.reduceSub, eq_self, ne_eq, not_false_eq_true, reduceCtorEq, Nat.zero_lt_succ, Nat.zero_le, Int.toNat_natCast, loopK_normal, loopK_ret, w2]
        refine ⟨⟨⟨_, rfl, by omega⟩, _, rfl, by omega⟩, by kernel_rfl, ?_⟩
        by_cases he : ps[k] = qs[k]
        · rw [if_neg (by rw [Bool.not_eq_true, Bool.not_eq_false', decide_eq_true_eq]; exact (Pk_eq _ _).1 he)]
          exact ⟨k + 1, [], ⟨by omega, hte.2 ⟨hk2, he⟩⟩, by omega, ⟨⟨⟨rfl, rfl, rfl⟩, ⟨rfl, rfl, rfl⟩, trivial, trivial, trivial, ⟨rfl, rfl, rfl⟩, fitT_rep _ _ rfl⟩, trivial, by simp [rn]⟩, by simp [keepIds]⟩
        · rw [if_pos (by rw [Bool.not_eq_true', decide_eq_false_iff_not]; exact fun h => he ((Pk_eq _ _).2 h)), no (fun e => he (by subst e; rfl))]
          exact ⟨_, [], rfl, ⟨⟨⟨rfl, rfl, rfl⟩, trivial⟩, trivial, by simp [rn]⟩⟩
      · have hlt : ((k : Int) < (ps.length : Int)) = False := eq_false (by omega)
        simp (maxSteps := 3000000) only [Try.f13, pRows_len, hlt, Try.underlying26, e_ret, e_exit, e_seq, e_cond, e_region, seqK_normal, seqK_exit, blkK_exit, condK_some, regK_false, e_nil, e_cons, gateK_go, exK_some, x_move, x_assign, x_binOp, x_len, done_ret, gate_none, boolOf, evA, putT, refn, fpD, oBin, upsl, dstsOf, resL, resA, packA, oLen, lenOf, hpAt, List.map_cons, List.map_nil, List.getD_cons_zero, List.getD_cons_succ, List.set_cons_zero, List.set_cons_succ, List.length_cons, List.length_nil, List.replicate, List.cons_append, List.nil_append, List.all_nil, true_and, ↓reduceIte, Bool.false_eq_true, decide_false, Nat.reduceAdd, Nat.reduceMul, Nat.reduceSub, eq_self, loopK_exit]
        have e : ps = qs := by
          have h1 := hk2
          rwa [List.take_of_length_le (by omega), List.take_of_length_le (by omega)] at h1
        rw [decide_eq_true e]
        exact ⟨_, [], rfl, ⟨⟨⟨rfl, rfl, rfl⟩, trivial⟩, trivial, by simp [rn]⟩⟩
    · rw [if_pos (by rw [bne_iff_ne]; omega), no (fun e => hll (by rw [e]))]
      exact ⟨_, [], rfl, ⟨⟨⟨rfl, rfl, rfl⟩, trivial⟩, trivial, by simp [rn]⟩⟩
  · cases hg
def ept : List (FuncId × Abs) := [(13, pureAbs g_eqPacketS)]
theorem ept_ok : ∀ p ∈ ept, CallOk Try.prog p.1 p.2 := by
  intro p hp
  simp only [ept, List.mem_cons, List.not_mem_nil, or_false] at hp
  rcases hp with rfl
  · exact eqPacketS_ok.call
set_option maxRecDepth 100000 in
theorem eqPart_ok : PureOk Try.prog 22 g_eqPart := by
  refine PureOk.of_vc (G := ept) ept_ok mixed Try.func22 (by kernel_rfl) rfl ?_
  intro args cnd r bs hg hc
  unfold g_eqPart at hg
  split at hg
  · rename_i sz rows u sz' rows' u'
    cases hg
    obtain ⟨⟨ps, rfl, hm⟩, qs, rfl, hm'⟩ := hc
    rw [psOf_rows, psOf_rows]
    refine ⟨⟨rfl, by simp, by simp [AV.ids]⟩, [.agg [.l 9 (pRows ps), .v (.int .i64 u)], .agg [.l 9 (pRows qs), .v (.int .i64 u')]], rfl, fun w vs h => CvL.ok (.cons (.cons (.l _ _ _ (pRows_w ps)) (.cons (.refl _) .nil)) (.cons (.cons (.l _ _ _ (pRows_w qs)) (.cons (.refl _) .nil)) .nil)) h, ?_⟩
    simp (maxSteps := 3000000) only [Try.f22, ept, g_eqPacketS, psOf_rows, tY3, tY26, tY42, e_skip, e_ret, e_seq, e_cond, e_region, seqK_normal, seqK_ret, condK_some, regK_false, e_nil, e_cons, gateK_go, exK_some, x_assign, x_box, x_load, x_binOp, x_unOp, x_fieldAddr, x_call, callK_some, done_ret, gate_none, boolOf, evA, putT, refn, fpD, oBin, oUn, upsl, upl, lk, dstsOf, resL, resA, packA, oLoadQ, isTrP, oLoad, oBox, oFieldAddr, AV.cells, AV.one, Value.oneCell', pureAbs, nrm, hpAt, AV.ren, List.find?_cons, beq_self_eq_true, List.map_cons, List.map_nil, List.getD_cons_zero, List.getD_cons_succ, List.set_cons_zero, List.set_cons_succ, List.length_cons, List.length_nil, List.replicate, List.cons_append, List.nil_append, List.getElem?_cons_zero, List.getElem?_cons_succ, List.all_nil, List.all_cons, Bool.and_self, true_and, ↓reduceIte, Bool.false_eq_true, decide_true, Nat.reduceAdd, Nat.reduceMul, Nat.reduceLT, Nat.reduceSub, eq_self, reduceCtorEq, Nat.zero_lt_succ, Nat.zero_le]
    refine ⟨⟨⟨_, rfl, hm⟩, _, rfl, hm'⟩, ?_⟩
    by_cases h1 : ps = qs
    · rw [if_neg (by simp [h1])]
      by_cases h2 : u = u'
      · rw [if_neg (by simp [h2]), decide_eq_true ⟨h1, h2⟩]
        exact ⟨_, [], rfl, ⟨⟨⟨rfl, rfl, rfl⟩, trivial⟩, trivial, by simp [rn]⟩⟩
      · rw [if_pos (by simpa using h2), decide_eq_false (fun h => h2 h.2)]
        exact ⟨_, [], rfl, ⟨⟨⟨rfl, rfl, rfl⟩, trivial⟩, trivial, by simp [rn]⟩⟩
    · rw [if_pos (by simp [h1]), decide_eq_false (fun h => h1 h.1)]
      exact ⟨_, [], rfl, ⟨⟨⟨rfl, rfl, rfl⟩, trivial⟩, trivial, by simp [rn]⟩⟩
  · cases hg
def epu : List (FuncId × Abs) := [(22, pureAbs g_eqPart)]
theorem epu_ok : ∀ p ∈ epu, CallOk Try.prog p.1 p.2 := by
  intro p hp
  simp only [epu, List.mem_cons, List.not_mem_nil, or_false] at hp
  rcases hp with rfl
  · exact eqPart_ok.call
set_option maxRecDepth 100000 in
theorem eqPartS_ok : PureOk Try.prog 34 g_eqPartS := by
  refine PureOk.of_vc (G := epu) epu_ok mixed Try.func34 (by kernel_rfl) rfl ?_
  intro args cnd r bs hg hc
  unfold g_eqPartS at hg
  split at hg
  · rename_i sz rows sz' rows'
    cases hg
    obtain ⟨⟨l, rfl, hn, hd⟩, r, rfl, hn', hd'⟩ := hc
    rw [ptsOf_rows, ptsOf_rows]
    have no : l ≠ r → (decide (l = r)) = false := fun e => by simp [e]
    refine ⟨⟨rfl, by simp, by simp [AV.ids]⟩, [.l 2 (ptRows l), .l 2 (ptRows r)], rfl, fun w vs h => CvL.ok (.cons (.l _ _ _ (ptRows_w l)) (.cons (.l _ _ _ (ptRows_w r)) .nil)) h, ?_⟩
    simp (maxSteps := 3000000) only [Try.f34, epu, ptRows_len, Try.underlying55, e_skip, e_ret, e_seq, e_cond, e_block, e_region, seqK_normal, seqK_ret, condK_some, regK_false, e_nil, e_cons, gateK_go, exK_some, x_move, x_assign, x_binOp, x_len, done_ret, gate_none, boolOf, evA, putT, refn, fpD, oBin, upsl, dstsOf, resL, resA, packA, oLen, lenOf, hpAt, List.map_cons, List.map_nil, List.getD_cons_zero, List.getD_cons_succ, List.set_cons_zero, List.set_cons_succ, List.length_cons, List.length_nil, List.replicate, List.cons_append, List.nil_append, List.all_nil, true_and, ↓reduceIte, Bool.false_eq_true, Nat.reduceAdd, Nat.reduceMul, Nat.reduceSub, eq_self]
    by_cases hll : l.length = r.length
    · rw [if_neg (by simp [hll])]
      refine e_loop _ _ _ _ _ _ _ _ (fun k : Nat => [.l 2 (ptRows l), .l 2 (ptRows r), .any, .any, .any, .v (.int .i64 (k : Int))] ++ List.replicate (Try.f34.ntmps - 6) .any) (fun k => []) (fun k => k ≤ l.length ∧ l.take k = r.take k) (fun k => l.length - k) 0 (fun k => by simp) ?_ fun k hk' => ?_
      · exact ⟨0, [], ⟨Nat.zero_le _, rfl⟩, ⟨⟨⟨rfl, rfl, rfl⟩, ⟨rfl, rfl, rfl⟩, trivial, trivial, trivial, ⟨rfl, rfl, rfl⟩, fitT_rep _ _ rfl⟩, trivial, by simp [rn]⟩, by simp [keepIds]⟩
      obtain ⟨hk1, hk2⟩ := hk'
      have w2 : IntKind.i64.wrap ((k : Int) + 1) = ((k + 1 : Nat) : Int) := by rw [wrap_id] <;> omega
      by_cases hk : k < l.length
      · have hky : k < r.length := by omega
        have hrow := ptRows_get l k hk
        have hrow' := ptRows_get r k hky
        have hlt : ((k : Int) < (l.length : Int)) = True := eq_true (by omega)
        have hlt' : ((k : Int) < (r.length : Int)) = True := eq_true (by omega)
        have h0 : (0 ≤ (k : Int)) = True := eq_true (by omega)
        have hx := hd l[k] (List.getElem_mem hk)
        have hx' := hd' r[k] (List.getElem_mem hky)
        have hte := take_eq hk hky
        simp (maxSteps := 3000000) only [Try.f34, ptRows_len, g_eqPart, psOf_rows, hrow, hrow', hlt, hlt', h0, D.toI, D.toL, ptRow, tY42, Try.underlying55, e_skip, e_ret, e_seq, e_cond, e_block, e_region, seqK_normal, seqK_ret, blkK_normal, blkK_ret, condK_some, regK_true, regK_false, e_nil, e_cons, gateK_go, exK_some, x_move, x_assign, x_load, x_binOp, x_unOp, x_indexAddr, x_call, x_len, callK_some, done_ret, gate_none, boolOf, evA, putT, refn, fpD, oBin, oUn, upsl, lk, dstsOf, resL, resA, packA, oLoadQ, isTrP, D.toL, oLoad, oIndexAddr, oLen, rowLoad, lenOf, nilV, views, viewsOk, CK.av, CK.ok, pureAbs, nrm, nrm.nrmL, hpAt, AV.ren, fpOf, footO, foot, blkIds, AV.ids, AV.ids.idsL, Op.operands, Call.operands, List.find?_cons, beq_self_eq_true, List.map_cons, List.map_nil, List.getD_cons_zero, List.getD_cons_succ, List.set_cons_zero, List.set_cons_succ, List.length_cons, List.length_nil, List.replicate, List.cons_append, List.nil_append, List.append_nil, List.headD_cons, List.tail_cons, List.flatMap_nil, List.toList_toArray, Array.toList_append, List.all_nil, true_and, ↓reduceIte, Bool.false_eq_true, and_self, decide_true, Nat.reduceAdd, Nat.reduceMul, Nat.reduceSub, eq_self, ne_eq, not_false_eq_true, reduceCtorEq, Nat.zero_lt_succ, Nat.zero_le, Int.toNat_natCast, loopK_normal, loopK_ret, w2]
        refine ⟨⟨⟨_, rfl, hx⟩, _, rfl, hx'⟩, by kernel_rfl, ?_⟩
        by_cases he : l[k] = r[k]
        · rw [if_neg (by rw [Bool.not_eq_true, Bool.not_eq_false', decide_eq_true_eq]; exact (Pt_eq _ _).1 he)]
          exact ⟨k + 1, [], ⟨by omega, hte.2 ⟨hk2, he⟩⟩, by omega, ⟨⟨⟨rfl, rfl, rfl⟩, ⟨rfl, rfl, rfl⟩, trivial, trivial, trivial, ⟨rfl, rfl, rfl⟩, fitT_rep _ _ rfl⟩, trivial, by simp [rn]⟩, by simp [keepIds]⟩
        · rw [if_pos (by rw [Bool.not_eq_true', decide_eq_false_iff_not]; exact fun h => he ((Pt_eq _ _).2 h)), no (fun e => he (by subst e; rfl))]
          exact ⟨_, [], rfl, ⟨⟨⟨rfl, rfl, rfl⟩, trivial⟩, trivial, by simp [rn]⟩⟩
      · have hlt : ((k : Int) < (l.length : Int)) = False := eq_false (by omega)
        simp (maxSteps := 3000000) only [Try.f34, ptRows_len, hlt, Try.underlying55, e_ret, e_exit, e_seq, e_cond, e_region, seqK_normal, seqK_exit, blkK_exit, condK_some, regK_false, e_nil, e_cons, gateK_go, exK_some, x_move, x_assign, x_binOp, x_len, done_ret, gate_none, boolOf, evA, putT, refn, fpD, oBin, upsl, dstsOf, resL, resA, packA, oLen, lenOf, hpAt, List.map_cons, List.map_nil, List.getD_cons_zero, List.getD_cons_succ, List.set_cons_zero, List.set_cons_succ, List.length_cons, List.length_nil, List.replicate, List.cons_append, List.nil_append, List.all_nil, true_and, ↓reduceIte, Bool.false_eq_true, decide_false, Nat.reduceAdd, Nat.reduceMul, Nat.reduceSub, eq_self, loopK_exit]
        have e : l = r := by
          have h1 := hk2
          rwa [List.take_of_length_le (by omega), List.take_of_length_le (by omega)] at h1
        rw [decide_eq_true e]
        exact ⟨_, [], rfl, ⟨⟨⟨rfl, rfl, rfl⟩, trivial⟩, trivial, by simp [rn]⟩⟩
    · rw [if_pos (by rw [bne_iff_ne]; omega), no (fun e => hll (by rw [e]))]
      exact ⟨_, [], rfl, ⟨⟨⟨rfl, rfl, rfl⟩, trivial⟩, trivial, by simp [rn]⟩⟩
  · cases hg
end Go.Proofs.Ytloffpgdclbkhaa
