import Derived.Test.YtfdgdffljaccdaaTt
import Derived.Test.YtfdgdffljaccdaaR6
namespace Go.Proofs.Ytfdgdffljaccdaa
open Go.RowKit
set_option linter.unusedSimpArgs false

/-! a station is drawn -/
inductive NF where
  | nil
  | oo
  | os
  | so
deriving DecidableEq
structure NS where
  f : NF
  km : List KE
  hm : List HE
  p : Int
def NS.ks (v : NS) : List KE := if v.f = .so then v.km.drop 1 else v.km
def NS.hs (v : NS) : List HE := if v.f = .os then v.hm.drop 1 else v.hm
def sendS (ks : List KE) (hs : List HE) (a : Int) (d : List UInt8) (now p : Int) : NS :=
  if sOk ks hs a d.length now = true then
    if 0 ≤ nfV ks hs a now then ⟨.oo, ks, hs, p⟩ else if hs.length < 4 then ⟨.oo, ks, hs ++ [⟨a, d⟩], p⟩ else ⟨.os, ks, hs ++ [⟨a, d⟩], p⟩
  else ⟨.nil, [], [], p⟩
def hearS (ks : List KE) (hs : List HE) (own : Int) (q : QueryV) (now p : Int) : NS :=
  if rOk ks hs q.k q.l q.a q.w now = true then
    if wantB ks hs own q.a q.w = true then (if (kOut ks q.a).length < 4 then ⟨.oo, kOut ks q.a ++ [⟨q.a, q.l, now + 20⟩], hOut hs q.a, p⟩ else ⟨.so, kOut ks q.a ++ [⟨q.a, q.l, now + 20⟩], hOut hs q.a, p⟩)
    else ⟨.oo, ks, hs, p⟩
  else ⟨.nil, [], [], p⟩
def byteP (xs : List UInt8) (p : Int) : Int := p + 1 + 1 + 1 + 2 * ((pickV xs (p + 1 + 1) 3).toNat : Int)
def nStep (xs : List UInt8) (v : NS) : NS :=
  if pickV xs v.p 2 = 0 then sendS v.ks v.hs (pickV xs (v.p + 1) 6) (bytesV xs (v.p + 1 + 1 + 1) (pickV xs (v.p + 1 + 1) 3).toNat) (pickV xs (byteP xs v.p) 30) (byteP xs v.p + 1)
  else hearS v.ks v.hs (pickV xs (v.p + 1) 6) (queryV xs (v.p + 1 + 1) 0) (pickV xs (queryV xs (v.p + 1 + 1) 0).p 30) ((queryV xs (v.p + 1 + 1) 0).p + 1)
def nRun (xs : List UInt8) (p : Int) : Nat → NS
  | 0 => ⟨.nil, [], [], p + 1⟩
  | k + 1 => nStep xs (nRun xs p k)
structure NInv (v : NS) : Prop where
  k : v.km.length ≤ 5
  h : v.hm.length ≤ 5
  so : v.f = .so → v.km.length = 5
  os : v.f = .os → v.hm.length = 5
  no : v.f = .nil → v.km = [] ∧ v.hm = []
  d : ∀ e ∈ v.hm, e.d.length ≤ 64
theorem sOk_b {ks : List KE} {hs : List HE} {a : Int} {n : Nat} {now : Int} (h : sOk ks hs a n now = true) : ks.length ≤ 4 ∧ hs.length ≤ 4 ∧ (∀ e ∈ hs, e.d.length ≤ 64) ∧ n ≤ 64 := by
  simp only [sOk, Bool.and_eq_true, decide_eq_true_eq] at h
  obtain ⟨k1, k2, k3, k4⟩ := nOkB_k h.1
  refine ⟨k1, k3, fun e he => ?_, h.2.2.1⟩
  obtain ⟨i, hi, rfl⟩ := List.getElem_of_mem he
  have := k4 i hi
  simp only [hOk, decide_eq_true_eq] at this
  exact this.2
theorem rOk_b {ks : List KE} {hs : List HE} {qk ql qa qw now : Int} (h : rOk ks hs qk ql qa qw now = true) : ks.length ≤ 4 ∧ hs.length ≤ 4 ∧ ∀ e ∈ hs, e.d.length ≤ 64 := by
  simp only [rOk, Bool.and_eq_true] at h
  obtain ⟨k1, k2, k3, k4⟩ := nOkB_k h.1
  refine ⟨k1, k3, fun e he => ?_⟩
  obtain ⟨i, hi, rfl⟩ := List.getElem_of_mem he
  have := k4 i hi
  simp only [hOk, decide_eq_true_eq] at this
  exact this.2
theorem sendS_inv (ks : List KE) (hs : List HE) (a : Int) (d : List UInt8) (now p : Int) : NInv (sendS ks hs a d now p) ∧ (sendS ks hs a d now p).p = p := by
  unfold sendS
  split
  · rename_i h
    obtain ⟨h1, h2, h3, h4⟩ := sOk_b h
    have hd : ∀ e ∈ hs ++ [⟨a, d⟩], e.d.length ≤ 64 := fun e he => by
      rcases List.mem_append.1 he with he | he
      · exact h3 e he
      · simp at he; subst he; exact h4
    have hl : (hs ++ [(⟨a, d⟩ : HE)]).length = hs.length + 1 := by simp
    split
    · exact ⟨⟨by dsimp only; omega, by dsimp only; omega, nofun, nofun, nofun, h3⟩, rfl⟩
    · split
      · exact ⟨⟨by dsimp only; omega, by dsimp only; omega, nofun, nofun, nofun, hd⟩, rfl⟩
      · exact ⟨⟨by dsimp only; omega, by dsimp only; omega, nofun, fun _ => by dsimp only; omega, nofun, hd⟩, rfl⟩
  · exact ⟨⟨by simp, by simp, nofun, nofun, fun _ => ⟨rfl, rfl⟩, by simp⟩, rfl⟩
theorem hearS_inv (ks : List KE) (hs : List HE) (own : Int) (q : QueryV) (now p : Int) : NInv (hearS ks hs own q now p) ∧ (hearS ks hs own q now p).p = p := by
  unfold hearS
  split
  · rename_i h
    obtain ⟨h1, h2, h3⟩ := rOk_b h
    have hd : ∀ e ∈ hOut hs q.a, e.d.length ≤ 64 := fun e he => h3 e (List.mem_filter.1 he).1
    have hl : (kOut ks q.a ++ [(⟨q.a, q.l, now + 20⟩ : KE)]).length = (kOut ks q.a).length + 1 := by simp
    have hk : (kOut ks q.a).length ≤ ks.length := List.length_filter_le _ _
    have hh : (hOut hs q.a).length ≤ hs.length := List.length_filter_le _ _
    split
    · split
      · exact ⟨⟨by dsimp only; omega, by dsimp only; omega, nofun, nofun, nofun, hd⟩, rfl⟩
      · exact ⟨⟨by dsimp only; omega, by dsimp only; omega, fun _ => by dsimp only; omega, nofun, nofun, hd⟩, rfl⟩
    · exact ⟨⟨by dsimp only; omega, by dsimp only; omega, nofun, nofun, nofun, h3⟩, rfl⟩
  · exact ⟨⟨by simp, by simp, nofun, nofun, fun _ => ⟨rfl, rfl⟩, by simp⟩, rfl⟩
theorem byteP_b (xs : List UInt8) (p : Int) (h : p < 100000000000) : p + 3 ≤ byteP xs p ∧ byteP xs p ≤ p + 7 := by
  have h1 := pickV_nonneg xs (p + 1 + 1) 3 (by omega)
  have h2 := pickV_lt xs (p + 1 + 1) 3 (by omega)
  unfold byteP
  omega
theorem nStep_inv (xs : List UInt8) (v : NS) (h : v.p < 100000000000) : NInv (nStep xs v) ∧ v.p ≤ (nStep xs v).p ∧ (nStep xs v).p ≤ v.p + 20 := by
  unfold nStep
  have hb := byteP_b xs v.p h
  have hq := queryV_p xs (v.p + 1 + 1) 0
  split
  · have := sendS_inv v.ks v.hs (pickV xs (v.p + 1) 6) (bytesV xs (v.p + 1 + 1 + 1) (pickV xs (v.p + 1 + 1) 3).toNat) (pickV xs (byteP xs v.p) 30) (byteP xs v.p + 1)
    exact ⟨this.1, by rw [this.2]; omega, by rw [this.2]; omega⟩
  · have := hearS_inv v.ks v.hs (pickV xs (v.p + 1) 6) (queryV xs (v.p + 1 + 1) 0) (pickV xs (queryV xs (v.p + 1 + 1) 0).p 30) ((queryV xs (v.p + 1 + 1) 0).p + 1)
    exact ⟨this.1, by rw [this.2]; omega, by rw [this.2]; omega⟩
theorem nRun_inv (xs : List UInt8) (p : Int) (hp : p < 1000000000) : ∀ k : Nat, k ≤ 1000000 → NInv (nRun xs p k) ∧ p ≤ (nRun xs p k).p ∧ (nRun xs p k).p ≤ p + 1 + 20 * (k : Int)
  | 0, _ => ⟨⟨by simp [nRun], by simp [nRun], nofun, nofun, fun _ => ⟨rfl, rfl⟩, by simp [nRun]⟩, by dsimp only [nRun]; omega, by dsimp only [nRun]; omega⟩
  | k + 1, hk => by
    obtain ⟨h1, h2, h3⟩ := nRun_inv xs p hp k (by omega)
    obtain ⟨k1, k2, k3⟩ := nStep_inv xs (nRun xs p k) (by omega)
    exact ⟨k1, by rw [nRun]; omega, by rw [nRun]; omega⟩
structure NearV where
  s1 : Nat
  s2 : Nat
  ks : List KE
  hs : List HE
  p : Int
def finS (xs : List UInt8) (v : NS) (n : Int) : NearV :=
  if (decide (0 < n) && pickV xs v.p n == n - 1) = true then
    if pickV xs (v.p + oneIf n) 3 = 0 then ⟨3, if v.f = .nil then 1 else 2, v.ks ++ [⟨pickV xs (v.p + oneIf n + 1) 6, pickV xs (v.p + oneIf n + 1 + 1) 300, pickV xs (v.p + oneIf n + 1 + 1 + 1) 9⟩], v.hs, v.p + oneIf n + 1 + 1 + 1 + 1⟩
    else if pickV xs (v.p + oneIf n) 3 = 1 then ⟨if v.f = .nil then 1 else 3, 2, v.ks, v.hs ++ [⟨pickV xs (v.p + oneIf n + 1) 6, []⟩, ⟨65536, []⟩], v.p + oneIf n + 1 + 1⟩
    else ⟨3, if v.f = .nil then 1 else 2, v.ks ++ v.ks, v.hs, v.p + oneIf n + 1⟩
  else ⟨if v.f = .nil then 1 else 3, if v.f = .nil then 1 else 2, v.ks, v.hs, v.p + oneIf n⟩
def nearV (xs : List UInt8) (p n : Int) : NearV := finS xs (nRun xs p (pickV xs p 10).toNat) n
theorem ks_le (v : NS) : v.ks.length ≤ v.km.length := by unfold NS.ks; split <;> simp
theorem hs_le (v : NS) : v.hs.length ≤ v.hm.length := by unfold NS.hs; split <;> simp
theorem hs_mem (v : NS) {e : HE} (h : e ∈ v.hs) : e ∈ v.hm := by
  unfold NS.hs at h
  split at h
  · exact List.mem_of_mem_drop h
  · exact h
theorem finS_len (xs : List UInt8) (v : NS) (n : Int) (h : NInv v) : (finS xs v n).ks.length ≤ 10 ∧ (finS xs v n).hs.length ≤ 7 ∧ (∀ e ∈ (finS xs v n).hs, e.d.length ≤ 64) ∧ v.p ≤ (finS xs v n).p ∧ (finS xs v n).p ≤ v.p + 5 := by
  have h1 := ks_le v
  have h2 := hs_le v
  have h3 := h.k
  have h4 := h.h
  have h5 := oneIf_le n
  have h6 : ∀ e ∈ v.hs, e.d.length ≤ 64 := fun e he => h.d e (hs_mem v he)
  unfold finS
  split
  · split
    · refine ⟨by rw [List.length_append]; simp only [List.length_cons, List.length_nil]; omega, by dsimp only; omega, h6, by dsimp only; omega, by dsimp only; omega⟩
    · split
      · refine ⟨by dsimp only; omega, by rw [List.length_append]; simp only [List.length_cons, List.length_nil]; omega, fun e he => ?_, by dsimp only; omega, by dsimp only; omega⟩
        rcases List.mem_append.1 he with he | he
        · exact h6 e he
        · simp at he
          rcases he with rfl | rfl <;> simp
      · refine ⟨by rw [List.length_append]; omega, by dsimp only; omega, h6, by dsimp only; omega, by dsimp only; omega⟩
  · refine ⟨by dsimp only; omega, by dsimp only; omega, h6, by dsimp only; omega, by dsimp only; omega⟩
theorem nearV_len (xs : List UInt8) (p n : Int) (hp : 0 ≤ p ∧ p < 1000000000) : (nearV xs p n).ks.length ≤ 10 ∧ (nearV xs p n).hs.length ≤ 7 ∧ (∀ e ∈ (nearV xs p n).hs, e.d.length ≤ 64) ∧ p ≤ (nearV xs p n).p ∧ (nearV xs p n).p ≤ p + 300 := by
  have a1 := pickV_nonneg xs p 10 (by omega)
  have a2 := pickV_lt xs p 10 (by omega)
  obtain ⟨k1, k2, k3⟩ := nRun_inv xs p hp.2 (pickV xs p 10).toNat (by omega)
  obtain ⟨q1, q2, q3, q4, q5⟩ := finS_len xs _ n k1
  exact ⟨q1, q2, q3, by unfold nearV; omega, by unfold nearV; omega⟩
theorem kRows_tail (ks : List KE) : (kRows ks).tail = kRows ks.tail := by simp [kRows]
theorem hRows_tail (hs : List HE) : (hRows hs).tail = hRows hs.tail := by simp [hRows]
def cellsN : NF → List AV
  | .nil => [nilA, nilA]
  | .oo => [.own 3, .own 4]
  | .os => [.own 3, .sub 4 1 5]
  | .so => [.sub 3 1 5, .own 4]
def blksN : NF → List KE → List HE → HP
  | .nil, _, _ => []
  | _, mk, mh => [(3, .sl 74 3 (kRows mk)), (4, .sl 40 2 (hRows mh))]
def g_near : OC := fun args B0 => match args, B0 with
  | [.ptr r o, .v (.int .i64 n)], [.var T [.l 1 rows, .v (.int .i64 p)]] => some (T = 96 ∧ r = 0 ∧ o = 0 ∧ (∃ xs, rows = rowsOfBytes xs ∧ xs.length ≤ 2000) ∧ 0 ≤ p ∧ p < 1000000000 ∧ 0 ≤ n ∧ n ≤ 1000000,
      .agg [.l (nearV (bytesOfRows rows) p n).s1 (kRows (nearV (bytesOfRows rows) p n).ks), .l (nearV (bytesOfRows rows) p n).s2 (hRows (nearV (bytesOfRows rows) p n).hs)], [.var T [.l 1 rows, .v (.int .i64 (nearV (bytesOfRows rows) p n).p)]], [])
  | _, _ => none
def nears : List (FuncId × Abs) := [(47, ownAbs g_pick), (73, ownAbs g_odd), (49, ownAbs g_bytes), (56, ownAbs g_query), (20, frzAbs g_sendM), (25, frzAbs g_hearM)]
theorem nears_ok : ∀ p ∈ nears, CallOk Try.prog p.1 p.2 := by
  intro p hp
  simp only [nears, List.mem_cons, List.not_mem_nil, or_false] at hp
  rcases hp with rfl | rfl | rfl | rfl | rfl | rfl
  · exact pick_ok.call
  · exact odd_ok.call
  · exact bytes_ok.call
  · exact query_ok.call
  · exact specNearSendM_ok.callF
  · exact specNearHearM_ok.callF
set_option maxHeartbeats 0 in
set_option maxRecDepth 100000 in
theorem near_ok : OwnOk Try.prog 41 g_near := by
  refine OwnOk.of_vcL (G := nears) nears_ok mixed Try.func41 (by kernel_rfl) rfl ?_
  intro args B0 cnd r B1 bs hg hc hlive
  unfold g_near at hg
  split at hg
  · rename_i r o n T rows p
    cases hg
    obtain ⟨rfl, rfl, rfl, ⟨xs, rfl, hl⟩, hp0, hp1, hn0, hn1⟩ := hc
    rw [bytesOf_rows]
    refine ⟨⟨by simp [likeBs, likeB], rfl, fun b hb => by simp at hb; subst hb; exact ⟨_, _, rfl, rfl⟩, by simp [AV.ids, AV.ids.idsL]⟩, _, rfl, fun w Z s vs h => h, ?_⟩
    clear hlive
    have hx : (∃ ys, rowsOfBytes xs = rowsOfBytes ys ∧ ys.length ≤ 2000) = True := eq_true ⟨xs, rfl, hl⟩
    have a1 := pickV_nonneg xs p 10 (by omega)
    have a2 := pickV_lt xs p 10 (by omega)
    obtain ⟨N, hN⟩ : ∃ N, N = (pickV xs p 10).toNat := ⟨_, rfl⟩
    have hpk : pickV xs p 10 = (N : Int) := by omega
    simp (maxSteps := 3000000) only [Try.f41, nears, g_pick, g_odd, g_bytes, g_query, g_sendM, g_hearM, bytesOf_rows, tY2, tY3, tY4, tY5, tY9, tY12, tY21, tY22, tY23, tY24, tY25, tY26, tY39, tY40, tY42, tY43, tY46, tY52, tY53, tY54, tY55, tY64, tY73, tY74, tY95, tY96, tY100, tY102, tY113, tY122, Try.underlying2, Try.underlying3, Try.underlying4, Try.underlying5, Try.underlying9, Try.underlying12, Try.underlying21, Try.underlying22, Try.underlying23, Try.underlying24, Try.underlying25, Try.underlying26, Try.underlying39, Try.underlying40, Try.underlying42, Try.underlying43, Try.underlying46, Try.underlying52, Try.underlying53, Try.underlying54, Try.underlying55, Try.underlying64, Try.underlying73, Try.underlying74, Try.underlying95, Try.underlying96, Try.underlying100, Try.underlying102, Try.underlying113, Try.underlying122, e_skip, e_label, e_ret, e_exit, e_seq, e_cond, e_block, e_region, seqK_normal, seqK_ret, seqK_exit, blkK_normal, blkK_ret, blkK_exit, condK_some, regK_true, regK_false, e_nil, e_cons, gateK_go, gateK_skip, gateK_ask, pickK_some, exK_some, x_pick, x_move, x_assign, x_alloc, x_box, x_build, x_buildSlice, x_load, x_store, x_binOp, x_unOp, x_convert, x_makeSlice, x_slice, x_fieldAddr, x_field, x_indexAddr, x_extract, x_nilCheck, x_call, x_len, x_append, x_min, oMin, x_copy, oCopy, eqAVs, callK_some, done_ret, done_normal, doneO_ret, doneO_normal, endsO_one, endsO_nil, endsO_more, ownAbs, frzAbs, leafs, leafs.leafsL, uniq, idxOf, bk, zipB, Blk.liveB, gate_none, gate_some, gateS_none, gateS_some, gateV_bool, gateV_undef, boolOf, evA, putT, refn, fpD, oBin, oUn, upsl, upl, up, ups, lk, dstsOf, resL, resA, packA, oLoadQ, oLoadKid, oStoreQ, oStoreTree, oBuildSliceQ, oBuildTree, oAppendQ, oAppendTree, isTr, isTrP, tkd, tkds, tkRows, ownOf, nodupB, deadL, treeOf, kidAbs, kidBlk, kidRows, TK.isCell, D.toL, oLoad, oStore, oAlloc, oBox, oBuild, oBuildSlice, oMake, oAppend, oIndexAddr, oFieldAddr, oField, oExtract, oNil, oSlice, oLen, oConvert, rowLoad, fillA, fillR, slB, dk, dks, dkRows, frz, loOf, hiOf, lenOf, rowsOf, nilV, lenV, putAt, views, viewsOk, CK.av, CK.ok, AV.cells, AV.one, Value.oneCell', Value.cells, pureAbs, nrm, nrm.nrmL, hpAt, sh, AV.ren, AV.ren.renL, Blk.ren, fpOf, footO, foot, blkIds, AV.ids, AV.ids.idsL, Op.operands, Call.operands, List.find?_cons, List.find?_nil, Nat.reduceBEq, beq_self_eq_true, List.map_cons, List.map_nil, List.getD_cons_zero, List.getD_cons_succ, List.getD_nil, List.set_cons_zero, List.set_cons_succ, List.length_cons, List.length_nil, List.replicate, List.cons_append, List.nil_append, List.append_nil, List.getElem?_cons_zero, List.getElem?_cons_succ, List.getElem?_toArray, List.getElem?_nil, List.take_zero, List.take_succ_cons, List.take_nil, List.drop_zero, List.drop_succ_cons, List.drop_nil, List.headD_cons, List.tail_cons, List.flatten_cons, List.flatten_nil, List.flatMap_cons, List.flatMap_nil, List.toList_toArray, Array.toList_append, Option.bind_some, Option.map_some, Option.map_none, Option.isSome_some, List.all_nil, List.all_cons, Bool.and_self, Bool.and_true, Bool.true_and, true_and, and_true, ↓reduceIte, List.size_toArray, Bool.false_eq_true, Bool.true_eq_false, false_implies, true_implies, Bool.not_true, Bool.not_false, and_self, implies_true, decide_true, decide_false, Nat.reduceAdd, Nat.reduceMul, Nat.reduceLT, Nat.reduceSub, Nat.reduceLeDiff, Nat.reduceEqDiff, eq_self, ne_eq, not_false_eq_true, false_and, and_false, reduceCtorEq, List.filter_nil, List.filter_cons, List.isEmpty_nil, List.isEmpty_cons, bne_self_eq_false, Nat.reduceBneDiff, Nat.lt_add_one, Nat.zero_lt_succ, List.append_assoc, Nat.zero_le, and_self_iff, Int.reduceToNat, List.any_nil, List.any_cons, List.filterMap_nil, List.filterMap_cons, List.contains_nil, List.contains_cons, Bool.or_false, Bool.false_or, Bool.or_true, Bool.true_or, Bool.false_and, Bool.and_false, decide_eq_true_eq, decide_eq_false_iff_not, beq_iff_eq, Int.toNat_natCast, hx, hpk]
    refine ⟨by omega, ?_⟩
    refine e_loop _ _ _ _ _ _ _ _ (fun k : Nat => [.ptr 0 0, .v (.int .i64 n), .any, .any, .ptr 1 0, .ptr 2 0, .v (.int .i64 ((N : Int) - (k : Int)))] ++ List.replicate (Try.f41.ntmps - 7) .any) (fun k => [(0, .var 96 [.l 1 (rowsOfBytes xs), .v (.int .i64 (nRun xs p k).p)]), (1, .var 26 [nilA, nilA]), (2, .var 26 (cellsN (nRun xs p k).f))] ++ blksN (nRun xs p k).f (nRun xs p k).km (nRun xs p k).hm) (fun k => k ≤ N) (fun k => N - k) 5 (fun k => by cases (nRun xs p k).f <;> simp [blksN]) ⟨0, [(0, some 0), (1, some 1), (2, some 33)], by omega, ?_, by simp [keepIds, rn, nRun, blksN]⟩ fun k hk => ?_
    · have e0 : ((N : Int) - ((0 : Nat) : Int)) = (N : Int) := by omega
      simp only [Try.f41, nRun, cellsN, blksN, List.append_nil, e0]
      (refine ⟨?_, ?_, ?_⟩ <;> simp [fitT, fit1, fitH, fitB, trE, emptyB, rn, lk, AV.ren, AV.ren.renL, Blk.ren, blkIds, blkPids, AV.ids, AV.ids.idsL, AV.pids, AV.pids.pidsL, Blk.there])
      try rfl
    · obtain ⟨i1, i2, i3⟩ := nRun_inv xs p hp1 k (by omega)
      obtain ⟨v, hv⟩ : ∃ v, v = nRun xs p k := ⟨_, rfl⟩
      have hstep : nRun xs p (k + 1) = nStep xs v := by rw [nRun, hv]
      rw [← hv] at i1 i2 i3
      rw [← hv]
      have hw : IntKind.i64.wrap ((N : Int) - (k : Int) - 1) = (N : Int) - ((k + 1 : Nat) : Int) := by rw [wrap_id] <;> omega
      by_cases h : k < N
      · clear hv
        have hlt : (0 < (N : Int) - (k : Int)) = True := eq_true (by omega)
        obtain ⟨f, mk, mh, q⟩ := v
        obtain ⟨j1, j2, j3, j4, j5, j6⟩ := i1
        dsimp only at i2 i3 j1 j2 j6
        cases f
        · obtain ⟨h5, h6⟩ := j5 rfl
          dsimp only at h5 h6
          subst h5
          subst h6
          have kn : ksOf [] = [] := rfl
          have hn' : hsOf [] = [] := rfl
          have hks : NS.ks ⟨.nil, [], [], q⟩ = [] := rfl
          have hhs : NS.hs ⟨.nil, [], [], q⟩ = [] := rfl
          have cK : ([] : List KE).length ≤ 1048576 := by simp
          have cH : hMid [] := ⟨by simp, by simp⟩
          clear j3 j4 j5
          by_cases h2 : pickV xs q 2 = 0
          · have h2' : (pickV xs q 2 = 0) = True := eq_true h2
            have hbp : q + 1 + 1 + 1 + 2 * ((pickV xs (q + 1 + 1) 3).toNat : Int) = byteP xs q := rfl
            rw [nStep, if_pos h2, hks, hhs] at hstep
            have bp := byteP_b xs q (by omega)
            have b3 := pickV_lt xs (q + 1 + 1) 3 (by omega)
            have b4 := pickV_nonneg xs (q + 1 + 1) 3 (by omega)
            have hdl : (bytesV xs (q + 1 + 1 + 1) (pickV xs (q + 1 + 1) 3).toNat).length ≤ 1048576 := by rw [bytesV_len]; omega
            have hrow : hRows [] ++ [[.v (.int .i64 (pickV xs (q + 1) 6)), .l 1 (rowsOfBytes (bytesV xs (q + 1 + 1 + 1) (pickV xs (q + 1 + 1) 3).toNat))]] = hRows ([] ++ [⟨(pickV xs (q + 1) 6), (bytesV xs (q + 1 + 1 + 1) (pickV xs (q + 1 + 1) 3).toNat)⟩]) := by rw [← hRows_app]; rfl
            have hdum : ((7 : Int) = 11) = False := eq_false (by omega)
            have hcs : (sOk [] [] (pickV xs (q + 1) 6) (pickV xs (q + 1 + 1) 3).toNat (pickV xs (byteP xs q) 30) = true ∧ (0 ≤ nfV [] [] (pickV xs (q + 1) 6) (pickV xs (byteP xs q) 30)) = True ∧ ((7 : Int) = 11) = False ∧ nRun xs p (k + 1) = ⟨.oo, [], [], byteP xs q + 1⟩) ∨ (sOk [] [] (pickV xs (q + 1) 6) (pickV xs (q + 1 + 1) 3).toNat (pickV xs (byteP xs q) 30) = true ∧ (0 ≤ nfV [] [] (pickV xs (q + 1) 6) (pickV xs (byteP xs q) 30)) = False ∧ (([] : List HE).length < 4) = True ∧ nRun xs p (k + 1) = ⟨.oo, [], [] ++ [⟨(pickV xs (q + 1) 6), (bytesV xs (q + 1 + 1 + 1) (pickV xs (q + 1 + 1) 3).toNat)⟩], byteP xs q + 1⟩) ∨ (sOk [] [] (pickV xs (q + 1) 6) (pickV xs (q + 1 + 1) 3).toNat (pickV xs (byteP xs q) 30) = false ∧ ((7 : Int) = 11) = False ∧ ((7 : Int) = 11) = False ∧ nRun xs p (k + 1) = ⟨.nil, [], [], byteP xs q + 1⟩) := by
              rw [sendS, bytesV_len] at hstep
              by_cases ho : sOk [] [] (pickV xs (q + 1) 6) (pickV xs (q + 1 + 1) 3).toNat (pickV xs (byteP xs q) 30) = true
              · rw [if_pos ho] at hstep
                by_cases hli : (0 ≤ nfV [] [] (pickV xs (q + 1) 6) (pickV xs (byteP xs q) 30))
                · rw [if_pos hli] at hstep
                  exact .inl ⟨ho, eq_true hli, hdum, hstep⟩
                · rw [if_neg hli, if_pos (by simp)] at hstep
                  exact .inr (.inl ⟨ho, eq_false hli, eq_true (by simp), hstep⟩)
              · rw [if_neg ho] at hstep
                exact .inr (.inr ⟨Bool.eq_false_iff.2 ho, hdum, hdum, hstep⟩)
            rcases hcs with ⟨ho, hli', hf4', hS⟩ | ⟨ho, hli', hf4', hS⟩ | ⟨ho, hli', hf4', hS⟩ <;> simp (maxSteps := 3000000) only [Try.f41, nears, g_pick, g_odd, g_bytes, g_query, g_sendM, g_hearM, bytesOf_rows, tY2, tY3, tY4, tY5, tY9, tY12, tY21, tY22, tY23, tY24, tY25, tY26, tY39, tY40, tY42, tY43, tY46, tY52, tY53, tY54, tY55, tY64, tY73, tY74, tY95, tY96, tY100, tY102, tY113, tY122, Try.underlying2, Try.underlying3, Try.underlying4, Try.underlying5, Try.underlying9, Try.underlying12, Try.underlying21, Try.underlying22, Try.underlying23, Try.underlying24, Try.underlying25, Try.underlying26, Try.underlying39, Try.underlying40, Try.underlying42, Try.underlying43, Try.underlying46, Try.underlying52, Try.underlying53, Try.underlying54, Try.underlying55, Try.underlying64, Try.underlying73, Try.underlying74, Try.underlying95, Try.underlying96, Try.underlying100, Try.underlying102, Try.underlying113, Try.underlying122, e_skip, e_label, e_ret, e_exit, e_seq, e_cond, e_block, e_region, seqK_normal, seqK_ret, seqK_exit, blkK_normal, blkK_ret, blkK_exit, condK_some, regK_true, regK_false, e_nil, e_cons, gateK_go, gateK_skip, gateK_ask, pickK_some, exK_some, x_pick, x_move, x_assign, x_alloc, x_box, x_build, x_buildSlice, x_load, x_store, x_binOp, x_unOp, x_convert, x_makeSlice, x_slice, x_fieldAddr, x_field, x_indexAddr, x_extract, x_nilCheck, x_call, x_len, x_append, x_min, oMin, x_copy, oCopy, eqAVs, callK_some, done_ret, done_normal, doneO_ret, doneO_normal, endsO_one, endsO_nil, endsO_more, ownAbs, frzAbs, leafs, leafs.leafsL, uniq, idxOf, bk, zipB, Blk.liveB, gate_none, gate_some, gateS_none, gateS_some, gateV_bool, gateV_undef, boolOf, evA, putT, refn, fpD, oBin, oUn, upsl, upl, up, ups, lk, dstsOf, resL, resA, packA, oLoadQ, oLoadKid, oStoreQ, oStoreTree, oBuildSliceQ, oBuildTree, oAppendQ, oAppendTree, isTr, isTrP, tkd, tkds, tkRows, ownOf, nodupB, deadL, treeOf, kidAbs, kidBlk, kidRows, TK.isCell, D.toL, oLoad, oStore, oAlloc, oBox, oBuild, oBuildSlice, oMake, oAppend, oIndexAddr, oFieldAddr, oField, oExtract, oNil, oSlice, oLen, oConvert, rowLoad, fillA, fillR, slB, dk, dks, dkRows, frz, loOf, hiOf, lenOf, rowsOf, nilV, lenV, putAt, views, viewsOk, CK.av, CK.ok, AV.cells, AV.one, Value.oneCell', Value.cells, pureAbs, nrm, nrm.nrmL, hpAt, sh, AV.ren, AV.ren.renL, Blk.ren, fpOf, footO, foot, blkIds, AV.ids, AV.ids.idsL, Op.operands, Call.operands, List.find?_cons, List.find?_nil, Nat.reduceBEq, beq_self_eq_true, List.map_cons, List.map_nil, List.getD_cons_zero, List.getD_cons_succ, List.getD_nil, List.set_cons_zero, List.set_cons_succ, List.length_cons, List.length_nil, List.replicate, List.cons_append, List.nil_append, List.append_nil, List.getElem?_cons_zero, List.getElem?_cons_succ, List.getElem?_toArray, List.getElem?_nil, List.take_zero, List.take_succ_cons, List.take_nil, List.drop_zero, List.drop_succ_cons, List.drop_nil, List.headD_cons, List.tail_cons, List.flatten_cons, List.flatten_nil, List.flatMap_cons, List.flatMap_nil, List.toList_toArray, Array.toList_append, Option.bind_some, Option.map_some, Option.map_none, Option.isSome_some, List.all_nil, List.all_cons, Bool.and_self, Bool.and_true, Bool.true_and, true_and, and_true, ↓reduceIte, List.size_toArray, Bool.false_eq_true, Bool.true_eq_false, false_implies, true_implies, Bool.not_true, Bool.not_false, and_self, implies_true, decide_true, decide_false, Nat.reduceAdd, Nat.reduceMul, Nat.reduceLT, Nat.reduceSub, Nat.reduceLeDiff, Nat.reduceEqDiff, eq_self, ne_eq, not_false_eq_true, false_and, and_false, reduceCtorEq, List.filter_nil, List.filter_cons, List.isEmpty_nil, List.isEmpty_cons, bne_self_eq_false, Nat.reduceBneDiff, Nat.lt_add_one, Nat.zero_lt_succ, List.append_assoc, Nat.zero_le, and_self_iff, Int.reduceToNat, List.any_nil, List.any_cons, List.filterMap_nil, List.filterMap_cons, List.contains_nil, List.contains_cons, Bool.or_false, Bool.false_or, Bool.or_true, Bool.true_or, Bool.false_and, Bool.and_false, decide_eq_true_eq, decide_eq_false_iff_not, beq_iff_eq, Int.toNat_natCast, hlt, loopK_normal, loopK_exit, loopK_ret, hw, cellsN, blksN, h2', hbp, ho, sendR, sendB, hx, ksOf_rows, hsOf_rows, kRows_len, hRows_len, rowsOf_len, bytesV_len, hrow, kn, hn', List.length_nil, hli', hf4']
            · refine ⟨by omega, by omega, by omega, by omega, by omega, ⟨⟨[], rfl, cK⟩, ⟨[], rfl, cH⟩, _, rfl, hdl⟩, by kernel_rfl, k + 1, [(3, some 229), (4, some 230)], by omega, by omega, ?_, ?_⟩
              · rw [hS]
                clear hS hstep cH cK hrow hdum hli' hf4'
                (refine ⟨?_, ?_, ?_⟩ <;> simp [fitT, fit1, fitH, fitB, trE, emptyB, rn, lk, AV.ren, AV.ren.renL, Blk.ren, blkIds, blkPids, AV.ids, AV.ids.idsL, AV.pids, AV.pids.pidsL, Blk.there])
                all_goals first | rfl | exact ⟨rfl, rfl⟩
              · rw [hS]; simp [keepIds, rn, cellsN, blksN]
            · refine ⟨by omega, by omega, by omega, by omega, by omega, ⟨⟨[], rfl, cK⟩, ⟨[], rfl, cH⟩, _, rfl, hdl⟩, by kernel_rfl, k + 1, [(3, some 229), (4, some 230)], by omega, by omega, ?_, ?_⟩
              · rw [hS]
                clear hS hstep cH cK hrow hdum hli' hf4'
                (refine ⟨?_, ?_, ?_⟩ <;> simp [fitT, fit1, fitH, fitB, trE, emptyB, rn, lk, AV.ren, AV.ren.renL, Blk.ren, blkIds, blkPids, AV.ids, AV.ids.idsL, AV.pids, AV.pids.pidsL, Blk.there])
                all_goals first | rfl | exact ⟨rfl, rfl⟩
              · rw [hS]; simp [keepIds, rn, cellsN, blksN]
            · refine ⟨by omega, by omega, by omega, by omega, by omega, ⟨⟨[], rfl, cK⟩, ⟨[], rfl, cH⟩, _, rfl, hdl⟩, by kernel_rfl, k + 1, [], by omega, by omega, ?_, ?_⟩
              · rw [hS]
                clear hS hstep cH cK hrow hdum hli' hf4'
                (refine ⟨?_, ?_, ?_⟩ <;> simp [fitT, fit1, fitH, fitB, trE, emptyB, rn, lk, AV.ren, AV.ren.renL, Blk.ren, blkIds, blkPids, AV.ids, AV.ids.idsL, AV.pids, AV.pids.pidsL, Blk.there])
                all_goals first | rfl | exact ⟨rfl, rfl⟩
              · rw [hS]; simp [keepIds, rn, cellsN, blksN]
          · have h2' : (pickV xs q 2 = 0) = False := eq_false h2
            obtain ⟨Q, hQ⟩ : ∃ Q, Q = queryV xs (q + 1 + 1) 0 := ⟨_, rfl⟩
            have hQ' := hQ.symm
            have hqp := queryV_p xs (q + 1 + 1) 0
            rw [nStep, if_neg h2, hks, hhs] at hstep
            dsimp only at hstep
            rw [hQ'] at hqp hstep
            clear hQ
            have hdum : ((7 : Int) = 11) = False := eq_false (by omega)
            have hcs : (rOk [] [] Q.k Q.l Q.a Q.w (pickV xs Q.p 30) = true ∧ wantB [] [] (pickV xs (q + 1) 6) Q.a Q.w = true ∧ ((kOut [] Q.a).length < 4) = True ∧ nRun xs p (k + 1) = ⟨.oo, (kOut [] Q.a) ++ [⟨Q.a, Q.l, (pickV xs Q.p 30) + 20⟩], hOut [] Q.a, Q.p + 1⟩) ∨ (rOk [] [] Q.k Q.l Q.a Q.w (pickV xs Q.p 30) = true ∧ wantB [] [] (pickV xs (q + 1) 6) Q.a Q.w = false ∧ ((7 : Int) = 11) = False ∧ nRun xs p (k + 1) = ⟨.oo, [], [], Q.p + 1⟩) ∨ (rOk [] [] Q.k Q.l Q.a Q.w (pickV xs Q.p 30) = false ∧ ((7 : Int) = 11) = False ∧ ((7 : Int) = 11) = False ∧ nRun xs p (k + 1) = ⟨.nil, [], [], Q.p + 1⟩) := by
              rw [hearS] at hstep
              by_cases ho : rOk [] [] Q.k Q.l Q.a Q.w (pickV xs Q.p 30) = true
              · rw [if_pos ho] at hstep
                by_cases hwb : wantB [] [] (pickV xs (q + 1) 6) Q.a Q.w = true
                · rw [if_pos hwb, if_pos (by simp [kOut])] at hstep
                  exact .inl ⟨ho, hwb, eq_true (by simp [kOut]), hstep⟩
                · rw [if_neg hwb] at hstep
                  exact .inr (.inl ⟨ho, Bool.eq_false_iff.2 hwb, hdum, hstep⟩)
              · rw [if_neg ho] at hstep
                exact .inr (.inr (⟨Bool.eq_false_iff.2 ho, hdum, hdum, hstep⟩))
            rcases hcs with ⟨ho, hwb, hf4', hS⟩ | ⟨ho, hwb, hf4', hS⟩ | ⟨ho, hwb, hf4', hS⟩ <;> simp (maxSteps := 3000000) only [Try.f41, nears, g_pick, g_odd, g_bytes, g_query, g_sendM, g_hearM, bytesOf_rows, tY2, tY3, tY4, tY5, tY9, tY12, tY21, tY22, tY23, tY24, tY25, tY26, tY39, tY40, tY42, tY43, tY46, tY52, tY53, tY54, tY55, tY64, tY73, tY74, tY95, tY96, tY100, tY102, tY113, tY122, Try.underlying2, Try.underlying3, Try.underlying4, Try.underlying5, Try.underlying9, Try.underlying12, Try.underlying21, Try.underlying22, Try.underlying23, Try.underlying24, Try.underlying25, Try.underlying26, Try.underlying39, Try.underlying40, Try.underlying42, Try.underlying43, Try.underlying46, Try.underlying52, Try.underlying53, Try.underlying54, Try.underlying55, Try.underlying64, Try.underlying73, Try.underlying74, Try.underlying95, Try.underlying96, Try.underlying100, Try.underlying102, Try.underlying113, Try.underlying122, e_skip, e_label, e_ret, e_exit, e_seq, e_cond, e_block, e_region, seqK_normal, seqK_ret, seqK_exit, blkK_normal, blkK_ret, blkK_exit, condK_some, regK_true, regK_false, e_nil, e_cons, gateK_go, gateK_skip, gateK_ask, pickK_some, exK_some, x_pick, x_move, x_assign, x_alloc, x_box, x_build, x_buildSlice, x_load, x_store, x_binOp, x_unOp, x_convert, x_makeSlice, x_slice, x_fieldAddr, x_field, x_indexAddr, x_extract, x_nilCheck, x_call, x_len, x_append, x_min, oMin, x_copy, oCopy, eqAVs, callK_some, done_ret, done_normal, doneO_ret, doneO_normal, endsO_one, endsO_nil, endsO_more, ownAbs, frzAbs, leafs, leafs.leafsL, uniq, idxOf, bk, zipB, Blk.liveB, gate_none, gate_some, gateS_none, gateS_some, gateV_bool, gateV_undef, boolOf, evA, putT, refn, fpD, oBin, oUn, upsl, upl, up, ups, lk, dstsOf, resL, resA, packA, oLoadQ, oLoadKid, oStoreQ, oStoreTree, oBuildSliceQ, oBuildTree, oAppendQ, oAppendTree, isTr, isTrP, tkd, tkds, tkRows, ownOf, nodupB, deadL, treeOf, kidAbs, kidBlk, kidRows, TK.isCell, D.toL, oLoad, oStore, oAlloc, oBox, oBuild, oBuildSlice, oMake, oAppend, oIndexAddr, oFieldAddr, oField, oExtract, oNil, oSlice, oLen, oConvert, rowLoad, fillA, fillR, slB, dk, dks, dkRows, frz, loOf, hiOf, lenOf, rowsOf, nilV, lenV, putAt, views, viewsOk, CK.av, CK.ok, AV.cells, AV.one, Value.oneCell', Value.cells, pureAbs, nrm, nrm.nrmL, hpAt, sh, AV.ren, AV.ren.renL, Blk.ren, fpOf, footO, foot, blkIds, AV.ids, AV.ids.idsL, Op.operands, Call.operands, List.find?_cons, List.find?_nil, Nat.reduceBEq, beq_self_eq_true, List.map_cons, List.map_nil, List.getD_cons_zero, List.getD_cons_succ, List.getD_nil, List.set_cons_zero, List.set_cons_succ, List.length_cons, List.length_nil, List.replicate, List.cons_append, List.nil_append, List.append_nil, List.getElem?_cons_zero, List.getElem?_cons_succ, List.getElem?_toArray, List.getElem?_nil, List.take_zero, List.take_succ_cons, List.take_nil, List.drop_zero, List.drop_succ_cons, List.drop_nil, List.headD_cons, List.tail_cons, List.flatten_cons, List.flatten_nil, List.flatMap_cons, List.flatMap_nil, List.toList_toArray, Array.toList_append, Option.bind_some, Option.map_some, Option.map_none, Option.isSome_some, List.all_nil, List.all_cons, Bool.and_self, Bool.and_true, Bool.true_and, true_and, and_true, ↓reduceIte, List.size_toArray, Bool.false_eq_true, Bool.true_eq_false, false_implies, true_implies, Bool.not_true, Bool.not_false, and_self, implies_true, decide_true, decide_false, Nat.reduceAdd, Nat.reduceMul, Nat.reduceLT, Nat.reduceSub, Nat.reduceLeDiff, Nat.reduceEqDiff, eq_self, ne_eq, not_false_eq_true, false_and, and_false, reduceCtorEq, List.filter_nil, List.filter_cons, List.isEmpty_nil, List.isEmpty_cons, bne_self_eq_false, Nat.reduceBneDiff, Nat.lt_add_one, Nat.zero_lt_succ, List.append_assoc, Nat.zero_le, and_self_iff, Int.reduceToNat, List.any_nil, List.any_cons, List.filterMap_nil, List.filterMap_cons, List.contains_nil, List.contains_cons, Bool.or_false, Bool.false_or, Bool.or_true, Bool.true_or, Bool.false_and, Bool.and_false, decide_eq_true_eq, decide_eq_false_iff_not, beq_iff_eq, Int.toNat_natCast, hlt, loopK_normal, loopK_exit, loopK_ret, hw, cellsN, blksN, h2', hQ', ho, hearR, hearB, hx, ksOf_rows, hsOf_rows, kRows_len, hRows_len, kn, hn', List.length_nil, hwb, hf4']
            · refine ⟨by omega, by omega, by omega, by omega, ⟨⟨[], rfl, cK⟩, [], rfl, cH⟩, by kernel_rfl, k + 1, [(3, some 197), (4, some 198)], by omega, by omega, ?_, ?_⟩
              · rw [hS]
                clear hS hstep cH cK hdum hf4'
                (refine ⟨?_, ?_, ?_⟩ <;> simp [fitT, fit1, fitH, fitB, trE, emptyB, rn, lk, AV.ren, AV.ren.renL, Blk.ren, blkIds, blkPids, AV.ids, AV.ids.idsL, AV.pids, AV.pids.pidsL, Blk.there])
                all_goals first | rfl | exact ⟨rfl, rfl⟩
              · rw [hS]; simp [keepIds, rn, cellsN, blksN]
            · refine ⟨by omega, by omega, by omega, by omega, ⟨⟨[], rfl, cK⟩, [], rfl, cH⟩, by kernel_rfl, k + 1, [(3, some 197), (4, some 198)], by omega, by omega, ?_, ?_⟩
              · rw [hS]
                clear hS hstep cH cK hdum hf4'
                (refine ⟨?_, ?_, ?_⟩ <;> simp [fitT, fit1, fitH, fitB, trE, emptyB, rn, lk, AV.ren, AV.ren.renL, Blk.ren, blkIds, blkPids, AV.ids, AV.ids.idsL, AV.pids, AV.pids.pidsL, Blk.there])
                all_goals first | rfl | exact ⟨rfl, rfl⟩
              · rw [hS]; simp [keepIds, rn, cellsN, blksN]
            · refine ⟨by omega, by omega, by omega, by omega, ⟨⟨[], rfl, cK⟩, [], rfl, cH⟩, by kernel_rfl, k + 1, [], by omega, by omega, ?_, ?_⟩
              · rw [hS]
                clear hS hstep cH cK hdum hf4'
                (refine ⟨?_, ?_, ?_⟩ <;> simp [fitT, fit1, fitH, fitB, trE, emptyB, rn, lk, AV.ren, AV.ren.renL, Blk.ren, blkIds, blkPids, AV.ids, AV.ids.idsL, AV.pids, AV.pids.pidsL, Blk.there])
                all_goals first | rfl | exact ⟨rfl, rfl⟩
              · rw [hS]; simp [keepIds, rn, cellsN, blksN]
        · have hks : NS.ks ⟨.oo, mk, mh, q⟩ = mk := rfl
          have hhs : NS.hs ⟨.oo, mk, mh, q⟩ = mh := rfl
          have cK : mk.length ≤ 1048576 := by omega
          have cH : hMid mh := ⟨by omega, fun e he => Nat.le_trans (j6 e he) (by omega)⟩
          clear j3 j4 j5
          by_cases h2 : pickV xs q 2 = 0
          · have h2' : (pickV xs q 2 = 0) = True := eq_true h2
            have hbp : q + 1 + 1 + 1 + 2 * ((pickV xs (q + 1 + 1) 3).toNat : Int) = byteP xs q := rfl
            rw [nStep, if_pos h2, hks, hhs] at hstep
            have bp := byteP_b xs q (by omega)
            have b3 := pickV_lt xs (q + 1 + 1) 3 (by omega)
            have b4 := pickV_nonneg xs (q + 1 + 1) 3 (by omega)
            have hdl : (bytesV xs (q + 1 + 1 + 1) (pickV xs (q + 1 + 1) 3).toNat).length ≤ 1048576 := by rw [bytesV_len]; omega
            have hrow : hRows mh ++ [[.v (.int .i64 (pickV xs (q + 1) 6)), .l 1 (rowsOfBytes (bytesV xs (q + 1 + 1 + 1) (pickV xs (q + 1 + 1) 3).toNat))]] = hRows (mh ++ [⟨(pickV xs (q + 1) 6), (bytesV xs (q + 1 + 1 + 1) (pickV xs (q + 1 + 1) 3).toNat)⟩]) := by rw [← hRows_app]; rfl
            have hdum : ((7 : Int) = 11) = False := eq_false (by omega)
            have hcs : (sOk mk mh (pickV xs (q + 1) 6) (pickV xs (q + 1 + 1) 3).toNat (pickV xs (byteP xs q) 30) = true ∧ (0 ≤ nfV mk mh (pickV xs (q + 1) 6) (pickV xs (byteP xs q) 30)) = True ∧ ((7 : Int) = 11) = False ∧ nRun xs p (k + 1) = ⟨.oo, mk, mh, byteP xs q + 1⟩) ∨ (sOk mk mh (pickV xs (q + 1) 6) (pickV xs (q + 1 + 1) 3).toNat (pickV xs (byteP xs q) 30) = true ∧ (0 ≤ nfV mk mh (pickV xs (q + 1) 6) (pickV xs (byteP xs q) 30)) = False ∧ (mh.length < 4) = True ∧ nRun xs p (k + 1) = ⟨.oo, mk, mh ++ [⟨(pickV xs (q + 1) 6), (bytesV xs (q + 1 + 1 + 1) (pickV xs (q + 1 + 1) 3).toNat)⟩], byteP xs q + 1⟩) ∨ (sOk mk mh (pickV xs (q + 1) 6) (pickV xs (q + 1 + 1) 3).toNat (pickV xs (byteP xs q) 30) = true ∧ (0 ≤ nfV mk mh (pickV xs (q + 1) 6) (pickV xs (byteP xs q) 30)) = False ∧ (mh.length < 4) = False ∧ nRun xs p (k + 1) = ⟨.os, mk, mh ++ [⟨(pickV xs (q + 1) 6), (bytesV xs (q + 1 + 1 + 1) (pickV xs (q + 1 + 1) 3).toNat)⟩], byteP xs q + 1⟩) ∨ (sOk mk mh (pickV xs (q + 1) 6) (pickV xs (q + 1 + 1) 3).toNat (pickV xs (byteP xs q) 30) = false ∧ ((7 : Int) = 11) = False ∧ ((7 : Int) = 11) = False ∧ nRun xs p (k + 1) = ⟨.nil, [], [], byteP xs q + 1⟩) := by
              rw [sendS, bytesV_len] at hstep
              by_cases ho : sOk mk mh (pickV xs (q + 1) 6) (pickV xs (q + 1 + 1) 3).toNat (pickV xs (byteP xs q) 30) = true
              · rw [if_pos ho] at hstep
                by_cases hli : (0 ≤ nfV mk mh (pickV xs (q + 1) 6) (pickV xs (byteP xs q) 30))
                · rw [if_pos hli] at hstep
                  exact .inl ⟨ho, eq_true hli, hdum, hstep⟩
                · rw [if_neg hli] at hstep
                  by_cases hf4 : (mh.length < 4)
                  · rw [if_pos hf4] at hstep
                    exact .inr (.inl ⟨ho, eq_false hli, eq_true hf4, hstep⟩)
                  · rw [if_neg hf4] at hstep
                    exact .inr (.inr (.inl ⟨ho, eq_false hli, eq_false hf4, hstep⟩))
              · rw [if_neg ho] at hstep
                exact .inr (.inr (.inr ⟨Bool.eq_false_iff.2 ho, hdum, hdum, hstep⟩))
            rcases hcs with ⟨ho, hli', hf4', hS⟩ | ⟨ho, hli', hf4', hS⟩ | ⟨ho, hli', hf4', hS⟩ | ⟨ho, hli', hf4', hS⟩ <;> simp (maxSteps := 3000000) only [Try.f41, nears, g_pick, g_odd, g_bytes, g_query, g_sendM, g_hearM, bytesOf_rows, tY2, tY3, tY4, tY5, tY9, tY12, tY21, tY22, tY23, tY24, tY25, tY26, tY39, tY40, tY42, tY43, tY46, tY52, tY53, tY54, tY55, tY64, tY73, tY74, tY95, tY96, tY100, tY102, tY113, tY122, Try.underlying2, Try.underlying3, Try.underlying4, Try.underlying5, Try.underlying9, Try.underlying12, Try.underlying21, Try.underlying22, Try.underlying23, Try.underlying24, Try.underlying25, Try.underlying26, Try.underlying39, Try.underlying40, Try.underlying42, Try.underlying43, Try.underlying46, Try.underlying52, Try.underlying53, Try.underlying54, Try.underlying55, Try.underlying64, Try.underlying73, Try.underlying74, Try.underlying95, Try.underlying96, Try.underlying100, Try.underlying102, Try.underlying113, Try.underlying122, e_skip, e_label, e_ret, e_exit, e_seq, e_cond, e_block, e_region, seqK_normal, seqK_ret, seqK_exit, blkK_normal, blkK_ret, blkK_exit, condK_some, regK_true, regK_false, e_nil, e_cons, gateK_go, gateK_skip, gateK_ask, pickK_some, exK_some, x_pick, x_move, x_assign, x_alloc, x_box, x_build, x_buildSlice, x_load, x_store, x_binOp, x_unOp, x_convert, x_makeSlice, x_slice, x_fieldAddr, x_field, x_indexAddr, x_extract, x_nilCheck, x_call, x_len, x_append, x_min, oMin, x_copy, oCopy, eqAVs, callK_some, done_ret, done_normal, doneO_ret, doneO_normal, endsO_one, endsO_nil, endsO_more, ownAbs, frzAbs, leafs, leafs.leafsL, uniq, idxOf, bk, zipB, Blk.liveB, gate_none, gate_some, gateS_none, gateS_some, gateV_bool, gateV_undef, boolOf, evA, putT, refn, fpD, oBin, oUn, upsl, upl, up, ups, lk, dstsOf, resL, resA, packA, oLoadQ, oLoadKid, oStoreQ, oStoreTree, oBuildSliceQ, oBuildTree, oAppendQ, oAppendTree, isTr, isTrP, tkd, tkds, tkRows, ownOf, nodupB, deadL, treeOf, kidAbs, kidBlk, kidRows, TK.isCell, D.toL, oLoad, oStore, oAlloc, oBox, oBuild, oBuildSlice, oMake, oAppend, oIndexAddr, oFieldAddr, oField, oExtract, oNil, oSlice, oLen, oConvert, rowLoad, fillA, fillR, slB, dk, dks, dkRows, frz, loOf, hiOf, lenOf, rowsOf, nilV, lenV, putAt, views, viewsOk, CK.av, CK.ok, AV.cells, AV.one, Value.oneCell', Value.cells, pureAbs, nrm, nrm.nrmL, hpAt, sh, AV.ren, AV.ren.renL, Blk.ren, fpOf, footO, foot, blkIds, AV.ids, AV.ids.idsL, Op.operands, Call.operands, List.find?_cons, List.find?_nil, Nat.reduceBEq, beq_self_eq_true, List.map_cons, List.map_nil, List.getD_cons_zero, List.getD_cons_succ, List.getD_nil, List.set_cons_zero, List.set_cons_succ, List.length_cons, List.length_nil, List.replicate, List.cons_append, List.nil_append, List.append_nil, List.getElem?_cons_zero, List.getElem?_cons_succ, List.getElem?_toArray, List.getElem?_nil, List.take_zero, List.take_succ_cons, List.take_nil, List.drop_zero, List.drop_succ_cons, List.drop_nil, List.headD_cons, List.tail_cons, List.flatten_cons, List.flatten_nil, List.flatMap_cons, List.flatMap_nil, List.toList_toArray, Array.toList_append, Option.bind_some, Option.map_some, Option.map_none, Option.isSome_some, List.all_nil, List.all_cons, Bool.and_self, Bool.and_true, Bool.true_and, true_and, and_true, ↓reduceIte, List.size_toArray, Bool.false_eq_true, Bool.true_eq_false, false_implies, true_implies, Bool.not_true, Bool.not_false, and_self, implies_true, decide_true, decide_false, Nat.reduceAdd, Nat.reduceMul, Nat.reduceLT, Nat.reduceSub, Nat.reduceLeDiff, Nat.reduceEqDiff, eq_self, ne_eq, not_false_eq_true, false_and, and_false, reduceCtorEq, List.filter_nil, List.filter_cons, List.isEmpty_nil, List.isEmpty_cons, bne_self_eq_false, Nat.reduceBneDiff, Nat.lt_add_one, Nat.zero_lt_succ, List.append_assoc, Nat.zero_le, and_self_iff, Int.reduceToNat, List.any_nil, List.any_cons, List.filterMap_nil, List.filterMap_cons, List.contains_nil, List.contains_cons, Bool.or_false, Bool.false_or, Bool.or_true, Bool.true_or, Bool.false_and, Bool.and_false, decide_eq_true_eq, decide_eq_false_iff_not, beq_iff_eq, Int.toNat_natCast, hlt, loopK_normal, loopK_exit, loopK_ret, hw, cellsN, blksN, h2', hbp, ho, sendR, sendB, hx, ksOf_rows, hsOf_rows, kRows_len, hRows_len, rowsOf_len, bytesV_len, hrow, hli', hf4']
            · refine ⟨by omega, by omega, by omega, by omega, by omega, ⟨⟨mk, rfl, cK⟩, ⟨mh, rfl, cH⟩, _, rfl, hdl⟩, by kernel_rfl, k + 1, [(3, some 229), (4, some 230)], by omega, by omega, ?_, ?_⟩
              · rw [hS]
                clear hS hstep cH cK hrow hdum hli' hf4'
                (refine ⟨?_, ?_, ?_⟩ <;> simp [fitT, fit1, fitH, fitB, trE, emptyB, rn, lk, AV.ren, AV.ren.renL, Blk.ren, blkIds, blkPids, AV.ids, AV.ids.idsL, AV.pids, AV.pids.pidsL, Blk.there])
                all_goals first | rfl | exact ⟨rfl, rfl⟩
              · rw [hS]; simp [keepIds, rn, cellsN, blksN]
            · refine ⟨by omega, by omega, by omega, by omega, by omega, ⟨⟨mk, rfl, cK⟩, ⟨mh, rfl, cH⟩, _, rfl, hdl⟩, by kernel_rfl, k + 1, [(3, some 229), (4, some 230)], by omega, by omega, ?_, ?_⟩
              · rw [hS]
                clear hS hstep cH cK hrow hdum hli' hf4'
                (refine ⟨?_, ?_, ?_⟩ <;> simp [fitT, fit1, fitH, fitB, trE, emptyB, rn, lk, AV.ren, AV.ren.renL, Blk.ren, blkIds, blkPids, AV.ids, AV.ids.idsL, AV.pids, AV.pids.pidsL, Blk.there])
                all_goals first | rfl | exact ⟨rfl, rfl⟩
              · rw [hS]; simp [keepIds, rn, cellsN, blksN]
            · refine ⟨by omega, by omega, by omega, by omega, by omega, ⟨⟨mk, rfl, cK⟩, ⟨mh, rfl, cH⟩, _, rfl, hdl⟩, by kernel_rfl, k + 1, [(3, some 229), (4, some 230)], by omega, by omega, ?_, ?_⟩
              · rw [hS]
                clear hS hstep cH cK hrow hdum hli' hf4'
                (refine ⟨?_, ?_, ?_⟩ <;> simp [fitT, fit1, fitH, fitB, trE, emptyB, rn, lk, AV.ren, AV.ren.renL, Blk.ren, blkIds, blkPids, AV.ids, AV.ids.idsL, AV.pids, AV.pids.pidsL, Blk.there])
                all_goals first | rfl | exact ⟨rfl, rfl⟩
              · rw [hS]; simp [keepIds, rn, cellsN, blksN]
            · refine ⟨by omega, by omega, by omega, by omega, by omega, ⟨⟨mk, rfl, cK⟩, ⟨mh, rfl, cH⟩, _, rfl, hdl⟩, by kernel_rfl, k + 1, [], by omega, by omega, ?_, ?_⟩
              · rw [hS]
                clear hS hstep cH cK hrow hdum hli' hf4'
                (refine ⟨?_, ?_, ?_⟩ <;> simp [fitT, fit1, fitH, fitB, trE, emptyB, rn, lk, AV.ren, AV.ren.renL, Blk.ren, blkIds, blkPids, AV.ids, AV.ids.idsL, AV.pids, AV.pids.pidsL, Blk.there])
                all_goals first | rfl | exact ⟨rfl, rfl⟩
              · rw [hS]; simp [keepIds, rn, cellsN, blksN]
          · have h2' : (pickV xs q 2 = 0) = False := eq_false h2
            obtain ⟨Q, hQ⟩ : ∃ Q, Q = queryV xs (q + 1 + 1) 0 := ⟨_, rfl⟩
            have hQ' := hQ.symm
            have hqp := queryV_p xs (q + 1 + 1) 0
            rw [nStep, if_neg h2, hks, hhs] at hstep
            dsimp only at hstep
            rw [hQ'] at hqp hstep
            clear hQ
            have hdum : ((7 : Int) = 11) = False := eq_false (by omega)
            have hcs : (rOk mk mh Q.k Q.l Q.a Q.w (pickV xs Q.p 30) = true ∧ wantB mk mh (pickV xs (q + 1) 6) Q.a Q.w = true ∧ ((kOut mk Q.a).length < 4) = True ∧ nRun xs p (k + 1) = ⟨.oo, (kOut mk Q.a) ++ [⟨Q.a, Q.l, (pickV xs Q.p 30) + 20⟩], hOut mh Q.a, Q.p + 1⟩) ∨ (rOk mk mh Q.k Q.l Q.a Q.w (pickV xs Q.p 30) = true ∧ wantB mk mh (pickV xs (q + 1) 6) Q.a Q.w = true ∧ ((kOut mk Q.a).length < 4) = False ∧ nRun xs p (k + 1) = ⟨.so, (kOut mk Q.a) ++ [⟨Q.a, Q.l, (pickV xs Q.p 30) + 20⟩], hOut mh Q.a, Q.p + 1⟩) ∨ (rOk mk mh Q.k Q.l Q.a Q.w (pickV xs Q.p 30) = true ∧ wantB mk mh (pickV xs (q + 1) 6) Q.a Q.w = false ∧ ((7 : Int) = 11) = False ∧ nRun xs p (k + 1) = ⟨.oo, mk, mh, Q.p + 1⟩) ∨ (rOk mk mh Q.k Q.l Q.a Q.w (pickV xs Q.p 30) = false ∧ ((7 : Int) = 11) = False ∧ ((7 : Int) = 11) = False ∧ nRun xs p (k + 1) = ⟨.nil, [], [], Q.p + 1⟩) := by
              rw [hearS] at hstep
              by_cases ho : rOk mk mh Q.k Q.l Q.a Q.w (pickV xs Q.p 30) = true
              · rw [if_pos ho] at hstep
                by_cases hwb : wantB mk mh (pickV xs (q + 1) 6) Q.a Q.w = true
                · rw [if_pos hwb] at hstep
                  by_cases hf4 : ((kOut mk Q.a).length < 4)
                  · rw [if_pos hf4] at hstep
                    exact .inl ⟨ho, hwb, eq_true hf4, hstep⟩
                  · rw [if_neg hf4] at hstep
                    exact .inr (.inl ⟨ho, hwb, eq_false hf4, hstep⟩)
                · rw [if_neg hwb] at hstep
                  exact .inr (.inr (.inl ⟨ho, Bool.eq_false_iff.2 hwb, hdum, hstep⟩))
              · rw [if_neg ho] at hstep
                exact .inr (.inr (.inr (⟨Bool.eq_false_iff.2 ho, hdum, hdum, hstep⟩)))
            rcases hcs with ⟨ho, hwb, hf4', hS⟩ | ⟨ho, hwb, hf4', hS⟩ | ⟨ho, hwb, hf4', hS⟩ | ⟨ho, hwb, hf4', hS⟩ <;> simp (maxSteps := 3000000) only [Try.f41, nears, g_pick, g_odd, g_bytes, g_query, g_sendM, g_hearM, bytesOf_rows, tY2, tY3, tY4, tY5, tY9, tY12, tY21, tY22, tY23, tY24, tY25, tY26, tY39, tY40, tY42, tY43, tY46, tY52, tY53, tY54, tY55, tY64, tY73, tY74, tY95, tY96, tY100, tY102, tY113, tY122, Try.underlying2, Try.underlying3, Try.underlying4, Try.underlying5, Try.underlying9, Try.underlying12, Try.underlying21, Try.underlying22, Try.underlying23, Try.underlying24, Try.underlying25, Try.underlying26, Try.underlying39, Try.underlying40, Try.underlying42, Try.underlying43, Try.underlying46, Try.underlying52, Try.underlying53, Try.underlying54, Try.underlying55, Try.underlying64, Try.underlying73, Try.underlying74, Try.underlying95, Try.underlying96, Try.underlying100, Try.underlying102, Try.underlying113, Try.underlying122, e_skip, e_label, e_ret, e_exit, e_seq, e_cond, e_block, e_region, seqK_normal, seqK_ret, seqK_exit, blkK_normal, blkK_ret, blkK_exit, condK_some, regK_true, regK_false, e_nil, e_cons, gateK_go, gateK_skip, gateK_ask, pickK_some, exK_some, x_pick, x_move, x_assign, x_alloc, x_box, x_build, x_buildSlice, x_load, x_store, x_binOp, x_unOp, x_convert, x_makeSlice, x_slice, x_fieldAddr, x_field, x_indexAddr, x_extract, x_nilCheck, x_call, x_len, x_append, x_min, oMin, x_copy, oCopy, eqAVs, callK_some, done_ret, done_normal, doneO_ret, doneO_normal, endsO_one, endsO_nil, endsO_more, ownAbs, frzAbs, leafs, leafs.leafsL, uniq, idxOf, bk, zipB, Blk.liveB, gate_none, gate_some, gateS_none, gateS_some, gateV_bool, gateV_undef, boolOf, evA, putT, refn, fpD, oBin, oUn, upsl, upl, up, ups, lk, dstsOf, resL, resA, packA, oLoadQ, oLoadKid, oStoreQ, oStoreTree, oBuildSliceQ, oBuildTree, oAppendQ, oAppendTree, isTr, isTrP, tkd, tkds, tkRows, ownOf, nodupB, deadL, treeOf, kidAbs, kidBlk, kidRows, TK.isCell, D.toL, oLoad, oStore, oAlloc, oBox, oBuild, oBuildSlice, oMake, oAppend, oIndexAddr, oFieldAddr, oField, oExtract, oNil, oSlice, oLen, oConvert, rowLoad, fillA, fillR, slB, dk, dks, dkRows, frz, loOf, hiOf, lenOf, rowsOf, nilV, lenV, putAt, views, viewsOk, CK.av, CK.ok, AV.cells, AV.one, Value.oneCell', Value.cells, pureAbs, nrm, nrm.nrmL, hpAt, sh, AV.ren, AV.ren.renL, Blk.ren, fpOf, footO, foot, blkIds, AV.ids, AV.ids.idsL, Op.operands, Call.operands, List.find?_cons, List.find?_nil, Nat.reduceBEq, beq_self_eq_true, List.map_cons, List.map_nil, List.getD_cons_zero, List.getD_cons_succ, List.getD_nil, List.set_cons_zero, List.set_cons_succ, List.length_cons, List.length_nil, List.replicate, List.cons_append, List.nil_append, List.append_nil, List.getElem?_cons_zero, List.getElem?_cons_succ, List.getElem?_toArray, List.getElem?_nil, List.take_zero, List.take_succ_cons, List.take_nil, List.drop_zero, List.drop_succ_cons, List.drop_nil, List.headD_cons, List.tail_cons, List.flatten_cons, List.flatten_nil, List.flatMap_cons, List.flatMap_nil, List.toList_toArray, Array.toList_append, Option.bind_some, Option.map_some, Option.map_none, Option.isSome_some, List.all_nil, List.all_cons, Bool.and_self, Bool.and_true, Bool.true_and, true_and, and_true, ↓reduceIte, List.size_toArray, Bool.false_eq_true, Bool.true_eq_false, false_implies, true_implies, Bool.not_true, Bool.not_false, and_self, implies_true, decide_true, decide_false, Nat.reduceAdd, Nat.reduceMul, Nat.reduceLT, Nat.reduceSub, Nat.reduceLeDiff, Nat.reduceEqDiff, eq_self, ne_eq, not_false_eq_true, false_and, and_false, reduceCtorEq, List.filter_nil, List.filter_cons, List.isEmpty_nil, List.isEmpty_cons, bne_self_eq_false, Nat.reduceBneDiff, Nat.lt_add_one, Nat.zero_lt_succ, List.append_assoc, Nat.zero_le, and_self_iff, Int.reduceToNat, List.any_nil, List.any_cons, List.filterMap_nil, List.filterMap_cons, List.contains_nil, List.contains_cons, Bool.or_false, Bool.false_or, Bool.or_true, Bool.true_or, Bool.false_and, Bool.and_false, decide_eq_true_eq, decide_eq_false_iff_not, beq_iff_eq, Int.toNat_natCast, hlt, loopK_normal, loopK_exit, loopK_ret, hw, cellsN, blksN, h2', hQ', ho, hearR, hearB, hx, ksOf_rows, hsOf_rows, kRows_len, hRows_len, hwb, hf4']
            · refine ⟨by omega, by omega, by omega, by omega, ⟨⟨mk, rfl, cK⟩, mh, rfl, cH⟩, by kernel_rfl, k + 1, [(3, some 197), (4, some 198)], by omega, by omega, ?_, ?_⟩
              · rw [hS]
                clear hS hstep cH cK hdum hf4'
                (refine ⟨?_, ?_, ?_⟩ <;> simp [fitT, fit1, fitH, fitB, trE, emptyB, rn, lk, AV.ren, AV.ren.renL, Blk.ren, blkIds, blkPids, AV.ids, AV.ids.idsL, AV.pids, AV.pids.pidsL, Blk.there])
                all_goals first | rfl | exact ⟨rfl, rfl⟩
              · rw [hS]; simp [keepIds, rn, cellsN, blksN]
            · refine ⟨by omega, by omega, by omega, by omega, ⟨⟨mk, rfl, cK⟩, mh, rfl, cH⟩, by kernel_rfl, k + 1, [(3, some 197), (4, some 198)], by omega, by omega, ?_, ?_⟩
              · rw [hS]
                clear hS hstep cH cK hdum hf4'
                (refine ⟨?_, ?_, ?_⟩ <;> simp [fitT, fit1, fitH, fitB, trE, emptyB, rn, lk, AV.ren, AV.ren.renL, Blk.ren, blkIds, blkPids, AV.ids, AV.ids.idsL, AV.pids, AV.pids.pidsL, Blk.there])
                all_goals first | rfl | exact ⟨rfl, rfl⟩
              · rw [hS]; simp [keepIds, rn, cellsN, blksN]
            · refine ⟨by omega, by omega, by omega, by omega, ⟨⟨mk, rfl, cK⟩, mh, rfl, cH⟩, by kernel_rfl, k + 1, [(3, some 197), (4, some 198)], by omega, by omega, ?_, ?_⟩
              · rw [hS]
                clear hS hstep cH cK hdum hf4'
                (refine ⟨?_, ?_, ?_⟩ <;> simp [fitT, fit1, fitH, fitB, trE, emptyB, rn, lk, AV.ren, AV.ren.renL, Blk.ren, blkIds, blkPids, AV.ids, AV.ids.idsL, AV.pids, AV.pids.pidsL, Blk.there])
                all_goals first | rfl | exact ⟨rfl, rfl⟩
              · rw [hS]; simp [keepIds, rn, cellsN, blksN]
            · refine ⟨by omega, by omega, by omega, by omega, ⟨⟨mk, rfl, cK⟩, mh, rfl, cH⟩, by kernel_rfl, k + 1, [], by omega, by omega, ?_, ?_⟩
              · rw [hS]
                clear hS hstep cH cK hdum hf4'
                (refine ⟨?_, ?_, ?_⟩ <;> simp [fitT, fit1, fitH, fitB, trE, emptyB, rn, lk, AV.ren, AV.ren.renL, Blk.ren, blkIds, blkPids, AV.ids, AV.ids.idsL, AV.pids, AV.pids.pidsL, Blk.there])
                all_goals first | rfl | exact ⟨rfl, rfl⟩
              · rw [hS]; simp [keepIds, rn, cellsN, blksN]
        · have hfull := j4 rfl
          dsimp only at hfull
          have ht : (hRows mh).take 5 = hRows mh := List.take_of_length_le (by rw [hRows_len]; omega)
          have hfull' : (5 = mh.length) = True := eq_true hfull.symm
          have hks : NS.ks ⟨.os, mk, mh, q⟩ = mk := rfl
          have hhs : NS.hs ⟨.os, mk, mh, q⟩ = (mh.drop 1) := rfl
          have cK : mk.length ≤ 1048576 := by omega
          have cH : hMid (mh.drop 1) := ⟨by rw [List.length_drop]; omega, fun e he => Nat.le_trans (j6 e (List.mem_of_mem_drop he)) (by omega)⟩
          clear j3 j4 j5
          by_cases h2 : pickV xs q 2 = 0
          · have h2' : (pickV xs q 2 = 0) = True := eq_true h2
            have hbp : q + 1 + 1 + 1 + 2 * ((pickV xs (q + 1 + 1) 3).toNat : Int) = byteP xs q := rfl
            rw [nStep, if_pos h2, hks, hhs] at hstep
            have bp := byteP_b xs q (by omega)
            have b3 := pickV_lt xs (q + 1 + 1) 3 (by omega)
            have b4 := pickV_nonneg xs (q + 1 + 1) 3 (by omega)
            have hdl : (bytesV xs (q + 1 + 1 + 1) (pickV xs (q + 1 + 1) 3).toNat).length ≤ 1048576 := by rw [bytesV_len]; omega
            have hrow : hRows (mh.drop 1) ++ [[.v (.int .i64 (pickV xs (q + 1) 6)), .l 1 (rowsOfBytes (bytesV xs (q + 1 + 1 + 1) (pickV xs (q + 1 + 1) 3).toNat))]] = hRows ((mh.drop 1) ++ [⟨(pickV xs (q + 1) 6), (bytesV xs (q + 1 + 1 + 1) (pickV xs (q + 1 + 1) 3).toNat)⟩]) := by rw [← hRows_app]; rfl
            have hdum : ((7 : Int) = 11) = False := eq_false (by omega)
            have hcs : (sOk mk (mh.drop 1) (pickV xs (q + 1) 6) (pickV xs (q + 1 + 1) 3).toNat (pickV xs (byteP xs q) 30) = true ∧ (0 ≤ nfV mk (mh.drop 1) (pickV xs (q + 1) 6) (pickV xs (byteP xs q) 30)) = True ∧ ((7 : Int) = 11) = False ∧ nRun xs p (k + 1) = ⟨.oo, mk, (mh.drop 1), byteP xs q + 1⟩) ∨ (sOk mk (mh.drop 1) (pickV xs (q + 1) 6) (pickV xs (q + 1 + 1) 3).toNat (pickV xs (byteP xs q) 30) = true ∧ (0 ≤ nfV mk (mh.drop 1) (pickV xs (q + 1) 6) (pickV xs (byteP xs q) 30)) = False ∧ ((mh.drop 1).length < 4) = True ∧ nRun xs p (k + 1) = ⟨.oo, mk, (mh.drop 1) ++ [⟨(pickV xs (q + 1) 6), (bytesV xs (q + 1 + 1 + 1) (pickV xs (q + 1 + 1) 3).toNat)⟩], byteP xs q + 1⟩) ∨ (sOk mk (mh.drop 1) (pickV xs (q + 1) 6) (pickV xs (q + 1 + 1) 3).toNat (pickV xs (byteP xs q) 30) = true ∧ (0 ≤ nfV mk (mh.drop 1) (pickV xs (q + 1) 6) (pickV xs (byteP xs q) 30)) = False ∧ ((mh.drop 1).length < 4) = False ∧ nRun xs p (k + 1) = ⟨.os, mk, (mh.drop 1) ++ [⟨(pickV xs (q + 1) 6), (bytesV xs (q + 1 + 1 + 1) (pickV xs (q + 1 + 1) 3).toNat)⟩], byteP xs q + 1⟩) ∨ (sOk mk (mh.drop 1) (pickV xs (q + 1) 6) (pickV xs (q + 1 + 1) 3).toNat (pickV xs (byteP xs q) 30) = false ∧ ((7 : Int) = 11) = False ∧ ((7 : Int) = 11) = False ∧ nRun xs p (k + 1) = ⟨.nil, [], [], byteP xs q + 1⟩) := by
              rw [sendS, bytesV_len] at hstep
              by_cases ho : sOk mk (mh.drop 1) (pickV xs (q + 1) 6) (pickV xs (q + 1 + 1) 3).toNat (pickV xs (byteP xs q) 30) = true
              · rw [if_pos ho] at hstep
                by_cases hli : (0 ≤ nfV mk (mh.drop 1) (pickV xs (q + 1) 6) (pickV xs (byteP xs q) 30))
                · rw [if_pos hli] at hstep
                  exact .inl ⟨ho, eq_true hli, hdum, hstep⟩
                · rw [if_neg hli] at hstep
                  by_cases hf4 : ((mh.drop 1).length < 4)
                  · rw [if_pos hf4] at hstep
                    exact .inr (.inl ⟨ho, eq_false hli, eq_true hf4, hstep⟩)
                  · rw [if_neg hf4] at hstep
                    exact .inr (.inr (.inl ⟨ho, eq_false hli, eq_false hf4, hstep⟩))
              · rw [if_neg ho] at hstep
                exact .inr (.inr (.inr ⟨Bool.eq_false_iff.2 ho, hdum, hdum, hstep⟩))
            rcases hcs with ⟨ho, hli', hf4', hS⟩ | ⟨ho, hli', hf4', hS⟩ | ⟨ho, hli', hf4', hS⟩ | ⟨ho, hli', hf4', hS⟩ <;> simp (maxSteps := 3000000) only [Try.f41, nears, g_pick, g_odd, g_bytes, g_query, g_sendM, g_hearM, bytesOf_rows, tY2, tY3, tY4, tY5, tY9, tY12, tY21, tY22, tY23, tY24, tY25, tY26, tY39, tY40, tY42, tY43, tY46, tY52, tY53, tY54, tY55, tY64, tY73, tY74, tY95, tY96, tY100, tY102, tY113, tY122, Try.underlying2, Try.underlying3, Try.underlying4, Try.underlying5, Try.underlying9, Try.underlying12, Try.underlying21, Try.underlying22, Try.underlying23, Try.underlying24, Try.underlying25, Try.underlying26, Try.underlying39, Try.underlying40, Try.underlying42, Try.underlying43, Try.underlying46, Try.underlying52, Try.underlying53, Try.underlying54, Try.underlying55, Try.underlying64, Try.underlying73, Try.underlying74, Try.underlying95, Try.underlying96, Try.underlying100, Try.underlying102, Try.underlying113, Try.underlying122, e_skip, e_label, e_ret, e_exit, e_seq, e_cond, e_block, e_region, seqK_normal, seqK_ret, seqK_exit, blkK_normal, blkK_ret, blkK_exit, condK_some, regK_true, regK_false, e_nil, e_cons, gateK_go, gateK_skip, gateK_ask, pickK_some, exK_some, x_pick, x_move, x_assign, x_alloc, x_box, x_build, x_buildSlice, x_load, x_store, x_binOp, x_unOp, x_convert, x_makeSlice, x_slice, x_fieldAddr, x_field, x_indexAddr, x_extract, x_nilCheck, x_call, x_len, x_append, x_min, oMin, x_copy, oCopy, eqAVs, callK_some, done_ret, done_normal, doneO_ret, doneO_normal, endsO_one, endsO_nil, endsO_more, ownAbs, frzAbs, leafs, leafs.leafsL, uniq, idxOf, bk, zipB, Blk.liveB, gate_none, gate_some, gateS_none, gateS_some, gateV_bool, gateV_undef, boolOf, evA, putT, refn, fpD, oBin, oUn, upsl, upl, up, ups, lk, dstsOf, resL, resA, packA, oLoadQ, oLoadKid, oStoreQ, oStoreTree, oBuildSliceQ, oBuildTree, oAppendQ, oAppendTree, isTr, isTrP, tkd, tkds, tkRows, ownOf, nodupB, deadL, treeOf, kidAbs, kidBlk, kidRows, TK.isCell, D.toL, oLoad, oStore, oAlloc, oBox, oBuild, oBuildSlice, oMake, oAppend, oIndexAddr, oFieldAddr, oField, oExtract, oNil, oSlice, oLen, oConvert, rowLoad, fillA, fillR, slB, dk, dks, dkRows, frz, loOf, hiOf, lenOf, rowsOf, nilV, lenV, putAt, views, viewsOk, CK.av, CK.ok, AV.cells, AV.one, Value.oneCell', Value.cells, pureAbs, nrm, nrm.nrmL, hpAt, sh, AV.ren, AV.ren.renL, Blk.ren, fpOf, footO, foot, blkIds, AV.ids, AV.ids.idsL, Op.operands, Call.operands, List.find?_cons, List.find?_nil, Nat.reduceBEq, beq_self_eq_true, List.map_cons, List.map_nil, List.getD_cons_zero, List.getD_cons_succ, List.getD_nil, List.set_cons_zero, List.set_cons_succ, List.length_cons, List.length_nil, List.replicate, List.cons_append, List.nil_append, List.append_nil, List.getElem?_cons_zero, List.getElem?_cons_succ, List.getElem?_toArray, List.getElem?_nil, List.take_zero, List.take_succ_cons, List.take_nil, List.drop_zero, List.drop_succ_cons, List.drop_nil, List.headD_cons, List.tail_cons, List.flatten_cons, List.flatten_nil, List.flatMap_cons, List.flatMap_nil, List.toList_toArray, Array.toList_append, Option.bind_some, Option.map_some, Option.map_none, Option.isSome_some, List.all_nil, List.all_cons, Bool.and_self, Bool.and_true, Bool.true_and, true_and, and_true, ↓reduceIte, List.size_toArray, Bool.false_eq_true, Bool.true_eq_false, false_implies, true_implies, Bool.not_true, Bool.not_false, and_self, implies_true, decide_true, decide_false, Nat.reduceAdd, Nat.reduceMul, Nat.reduceLT, Nat.reduceSub, Nat.reduceLeDiff, Nat.reduceEqDiff, eq_self, ne_eq, not_false_eq_true, false_and, and_false, reduceCtorEq, List.filter_nil, List.filter_cons, List.isEmpty_nil, List.isEmpty_cons, bne_self_eq_false, Nat.reduceBneDiff, Nat.lt_add_one, Nat.zero_lt_succ, List.append_assoc, Nat.zero_le, and_self_iff, Int.reduceToNat, List.any_nil, List.any_cons, List.filterMap_nil, List.filterMap_cons, List.contains_nil, List.contains_cons, Bool.or_false, Bool.false_or, Bool.or_true, Bool.true_or, Bool.false_and, Bool.and_false, decide_eq_true_eq, decide_eq_false_iff_not, beq_iff_eq, Int.toNat_natCast, hlt, loopK_normal, loopK_exit, loopK_ret, hw, cellsN, blksN, h2', hbp, ho, sendR, sendB, hx, ksOf_rows, hsOf_rows, kRows_len, hRows_len, rowsOf_len, bytesV_len, hrow, ht, hRows_drop, hfull', hli', hf4']
            · refine ⟨by omega, by omega, by omega, by omega, by omega, ⟨⟨mk, rfl, cK⟩, ⟨(mh.drop 1), rfl, cH⟩, _, rfl, hdl⟩, by kernel_rfl, k + 1, [(3, some 229), (4, some 230)], by omega, by omega, ?_, ?_⟩
              · rw [hS]
                clear hS hstep cH cK hrow hdum hli' hf4'
                (refine ⟨?_, ?_, ?_⟩ <;> simp [fitT, fit1, fitH, fitB, trE, emptyB, rn, lk, AV.ren, AV.ren.renL, Blk.ren, blkIds, blkPids, AV.ids, AV.ids.idsL, AV.pids, AV.pids.pidsL, Blk.there])
                all_goals first | rfl | exact ⟨rfl, rfl⟩
              · rw [hS]; simp [keepIds, rn, cellsN, blksN]
            · refine ⟨by omega, by omega, by omega, by omega, by omega, ⟨⟨mk, rfl, cK⟩, ⟨(mh.drop 1), rfl, cH⟩, _, rfl, hdl⟩, by kernel_rfl, k + 1, [(3, some 229), (4, some 230)], by omega, by omega, ?_, ?_⟩
              · rw [hS]
                clear hS hstep cH cK hrow hdum hli' hf4'
                (refine ⟨?_, ?_, ?_⟩ <;> simp [fitT, fit1, fitH, fitB, trE, emptyB, rn, lk, AV.ren, AV.ren.renL, Blk.ren, blkIds, blkPids, AV.ids, AV.ids.idsL, AV.pids, AV.pids.pidsL, Blk.there])
                all_goals first | rfl | exact ⟨rfl, rfl⟩
              · rw [hS]; simp [keepIds, rn, cellsN, blksN]
            · refine ⟨by omega, by omega, by omega, by omega, by omega, ⟨⟨mk, rfl, cK⟩, ⟨(mh.drop 1), rfl, cH⟩, _, rfl, hdl⟩, by kernel_rfl, k + 1, [(3, some 229), (4, some 230)], by omega, by omega, ?_, ?_⟩
              · rw [hS]
                clear hS hstep cH cK hrow hdum hli' hf4'
                (refine ⟨?_, ?_, ?_⟩ <;> simp [fitT, fit1, fitH, fitB, trE, emptyB, rn, lk, AV.ren, AV.ren.renL, Blk.ren, blkIds, blkPids, AV.ids, AV.ids.idsL, AV.pids, AV.pids.pidsL, Blk.there])
                all_goals first | rfl | exact ⟨rfl, rfl⟩
              · rw [hS]; simp [keepIds, rn, cellsN, blksN]
            · refine ⟨by omega, by omega, by omega, by omega, by omega, ⟨⟨mk, rfl, cK⟩, ⟨(mh.drop 1), rfl, cH⟩, _, rfl, hdl⟩, by kernel_rfl, k + 1, [], by omega, by omega, ?_, ?_⟩
              · rw [hS]
                clear hS hstep cH cK hrow hdum hli' hf4'
                (refine ⟨?_, ?_, ?_⟩ <;> simp [fitT, fit1, fitH, fitB, trE, emptyB, rn, lk, AV.ren, AV.ren.renL, Blk.ren, blkIds, blkPids, AV.ids, AV.ids.idsL, AV.pids, AV.pids.pidsL, Blk.there])
                all_goals first | rfl | exact ⟨rfl, rfl⟩
              · rw [hS]; simp [keepIds, rn, cellsN, blksN]
          · have h2' : (pickV xs q 2 = 0) = False := eq_false h2
            obtain ⟨Q, hQ⟩ : ∃ Q, Q = queryV xs (q + 1 + 1) 0 := ⟨_, rfl⟩
            have hQ' := hQ.symm
            have hqp := queryV_p xs (q + 1 + 1) 0
            rw [nStep, if_neg h2, hks, hhs] at hstep
            dsimp only at hstep
            rw [hQ'] at hqp hstep
            clear hQ
            have hdum : ((7 : Int) = 11) = False := eq_false (by omega)
            have hcs : (rOk mk (mh.drop 1) Q.k Q.l Q.a Q.w (pickV xs Q.p 30) = true ∧ wantB mk (mh.drop 1) (pickV xs (q + 1) 6) Q.a Q.w = true ∧ ((kOut mk Q.a).length < 4) = True ∧ nRun xs p (k + 1) = ⟨.oo, (kOut mk Q.a) ++ [⟨Q.a, Q.l, (pickV xs Q.p 30) + 20⟩], hOut (mh.drop 1) Q.a, Q.p + 1⟩) ∨ (rOk mk (mh.drop 1) Q.k Q.l Q.a Q.w (pickV xs Q.p 30) = true ∧ wantB mk (mh.drop 1) (pickV xs (q + 1) 6) Q.a Q.w = true ∧ ((kOut mk Q.a).length < 4) = False ∧ nRun xs p (k + 1) = ⟨.so, (kOut mk Q.a) ++ [⟨Q.a, Q.l, (pickV xs Q.p 30) + 20⟩], hOut (mh.drop 1) Q.a, Q.p + 1⟩) ∨ (rOk mk (mh.drop 1) Q.k Q.l Q.a Q.w (pickV xs Q.p 30) = true ∧ wantB mk (mh.drop 1) (pickV xs (q + 1) 6) Q.a Q.w = false ∧ ((7 : Int) = 11) = False ∧ nRun xs p (k + 1) = ⟨.oo, mk, (mh.drop 1), Q.p + 1⟩) ∨ (rOk mk (mh.drop 1) Q.k Q.l Q.a Q.w (pickV xs Q.p 30) = false ∧ ((7 : Int) = 11) = False ∧ ((7 : Int) = 11) = False ∧ nRun xs p (k + 1) = ⟨.nil, [], [], Q.p + 1⟩) := by
              rw [hearS] at hstep
              by_cases ho : rOk mk (mh.drop 1) Q.k Q.l Q.a Q.w (pickV xs Q.p 30) = true
              · rw [if_pos ho] at hstep
                by_cases hwb : wantB mk (mh.drop 1) (pickV xs (q + 1) 6) Q.a Q.w = true
                · rw [if_pos hwb] at hstep
                  by_cases hf4 : ((kOut mk Q.a).length < 4)
                  · rw [if_pos hf4] at hstep
                    exact .inl ⟨ho, hwb, eq_true hf4, hstep⟩
                  · rw [if_neg hf4] at hstep
                    exact .inr (.inl ⟨ho, hwb, eq_false hf4, hstep⟩)
                · rw [if_neg hwb] at hstep
                  exact .inr (.inr (.inl ⟨ho, Bool.eq_false_iff.2 hwb, hdum, hstep⟩))
              · rw [if_neg ho] at hstep
                exact .inr (.inr (.inr (⟨Bool.eq_false_iff.2 ho, hdum, hdum, hstep⟩)))
            rcases hcs with ⟨ho, hwb, hf4', hS⟩ | ⟨ho, hwb, hf4', hS⟩ | ⟨ho, hwb, hf4', hS⟩ | ⟨ho, hwb, hf4', hS⟩ <;> simp (maxSteps := 3000000) only [Try.f41, nears, g_pick, g_odd, g_bytes, g_query, g_sendM, g_hearM, bytesOf_rows, tY2, tY3, tY4, tY5, tY9, tY12, tY21, tY22, tY23, tY24, tY25, tY26, tY39, tY40, tY42, tY43, tY46, tY52, tY53, tY54, tY55, tY64, tY73, tY74, tY95, tY96, tY100, tY102, tY113, tY122, Try.underlying2, Try.underlying3, Try.underlying4, Try.underlying5, Try.underlying9, Try.underlying12, Try.underlying21, Try.underlying22, Try.underlying23, Try.underlying24, Try.underlying25, Try.underlying26, Try.underlying39, Try.underlying40, Try.underlying42, Try.underlying43, Try.underlying46, Try.underlying52, Try.underlying53, Try.underlying54, Try.underlying55, Try.underlying64, Try.underlying73, Try.underlying74, Try.underlying95, Try.underlying96, Try.underlying100, Try.underlying102, Try.underlying113, Try.underlying122, e_skip, e_label, e_ret, e_exit, e_seq, e_cond, e_block, e_region, seqK_normal, seqK_ret, seqK_exit, blkK_normal, blkK_ret, blkK_exit, condK_some, regK_true, regK_false, e_nil, e_cons, gateK_go, gateK_skip, gateK_ask, pickK_some, exK_some, x_pick, x_move, x_assign, x_alloc, x_box, x_build, x_buildSlice, x_load, x_store, x_binOp, x_unOp, x_convert, x_makeSlice, x_slice, x_fieldAddr, x_field, x_indexAddr, x_extract, x_nilCheck, x_call, x_len, x_append, x_min, oMin, x_copy, oCopy, eqAVs, callK_some, done_ret, done_normal, doneO_ret, doneO_normal, endsO_one, endsO_nil, endsO_more, ownAbs, frzAbs, leafs, leafs.leafsL, uniq, idxOf, bk, zipB, Blk.liveB, gate_none, gate_some, gateS_none, gateS_some, gateV_bool, gateV_undef, boolOf, evA, putT, refn, fpD, oBin, oUn, upsl, upl, up, ups, lk, dstsOf, resL, resA, packA, oLoadQ, oLoadKid, oStoreQ, oStoreTree, oBuildSliceQ, oBuildTree, oAppendQ, oAppendTree, isTr, isTrP, tkd, tkds, tkRows, ownOf, nodupB, deadL, treeOf, kidAbs, kidBlk, kidRows, TK.isCell, D.toL, oLoad, oStore, oAlloc, oBox, oBuild, oBuildSlice, oMake, oAppend, oIndexAddr, oFieldAddr, oField, oExtract, oNil, oSlice, oLen, oConvert, rowLoad, fillA, fillR, slB, dk, dks, dkRows, frz, loOf, hiOf, lenOf, rowsOf, nilV, lenV, putAt, views, viewsOk, CK.av, CK.ok, AV.cells, AV.one, Value.oneCell', Value.cells, pureAbs, nrm, nrm.nrmL, hpAt, sh, AV.ren, AV.ren.renL, Blk.ren, fpOf, footO, foot, blkIds, AV.ids, AV.ids.idsL, Op.operands, Call.operands, List.find?_cons, List.find?_nil, Nat.reduceBEq, beq_self_eq_true, List.map_cons, List.map_nil, List.getD_cons_zero, List.getD_cons_succ, List.getD_nil, List.set_cons_zero, List.set_cons_succ, List.length_cons, List.length_nil, List.replicate, List.cons_append, List.nil_append, List.append_nil, List.getElem?_cons_zero, List.getElem?_cons_succ, List.getElem?_toArray, List.getElem?_nil, List.take_zero, List.take_succ_cons, List.take_nil, List.drop_zero, List.drop_succ_cons, List.drop_nil, List.headD_cons, List.tail_cons, List.flatten_cons, List.flatten_nil, List.flatMap_cons, List.flatMap_nil, List.toList_toArray, Array.toList_append, Option.bind_some, Option.map_some, Option.map_none, Option.isSome_some, List.all_nil, List.all_cons, Bool.and_self, Bool.and_true, Bool.true_and, true_and, and_true, ↓reduceIte, List.size_toArray, Bool.false_eq_true, Bool.true_eq_false, false_implies, true_implies, Bool.not_true, Bool.not_false, and_self, implies_true, decide_true, decide_false, Nat.reduceAdd, Nat.reduceMul, Nat.reduceLT, Nat.reduceSub, Nat.reduceLeDiff, Nat.reduceEqDiff, eq_self, ne_eq, not_false_eq_true, false_and, and_false, reduceCtorEq, List.filter_nil, List.filter_cons, List.isEmpty_nil, List.isEmpty_cons, bne_self_eq_false, Nat.reduceBneDiff, Nat.lt_add_one, Nat.zero_lt_succ, List.append_assoc, Nat.zero_le, and_self_iff, Int.reduceToNat, List.any_nil, List.any_cons, List.filterMap_nil, List.filterMap_cons, List.contains_nil, List.contains_cons, Bool.or_false, Bool.false_or, Bool.or_true, Bool.true_or, Bool.false_and, Bool.and_false, decide_eq_true_eq, decide_eq_false_iff_not, beq_iff_eq, Int.toNat_natCast, hlt, loopK_normal, loopK_exit, loopK_ret, hw, cellsN, blksN, h2', hQ', ho, hearR, hearB, hx, ksOf_rows, hsOf_rows, kRows_len, hRows_len, ht, hRows_drop, hfull', hwb, hf4']
            · refine ⟨by omega, by omega, by omega, by omega, ⟨⟨mk, rfl, cK⟩, (mh.drop 1), rfl, cH⟩, by kernel_rfl, k + 1, [(3, some 197), (4, some 198)], by omega, by omega, ?_, ?_⟩
              · rw [hS]
                clear hS hstep cH cK hdum hf4'
                (refine ⟨?_, ?_, ?_⟩ <;> simp [fitT, fit1, fitH, fitB, trE, emptyB, rn, lk, AV.ren, AV.ren.renL, Blk.ren, blkIds, blkPids, AV.ids, AV.ids.idsL, AV.pids, AV.pids.pidsL, Blk.there])
                all_goals first | rfl | exact ⟨rfl, rfl⟩
              · rw [hS]; simp [keepIds, rn, cellsN, blksN]
            · refine ⟨by omega, by omega, by omega, by omega, ⟨⟨mk, rfl, cK⟩, (mh.drop 1), rfl, cH⟩, by kernel_rfl, k + 1, [(3, some 197), (4, some 198)], by omega, by omega, ?_, ?_⟩
              · rw [hS]
                clear hS hstep cH cK hdum hf4'
                (refine ⟨?_, ?_, ?_⟩ <;> simp [fitT, fit1, fitH, fitB, trE, emptyB, rn, lk, AV.ren, AV.ren.renL, Blk.ren, blkIds, blkPids, AV.ids, AV.ids.idsL, AV.pids, AV.pids.pidsL, Blk.there])
                all_goals first | rfl | exact ⟨rfl, rfl⟩
              · rw [hS]; simp [keepIds, rn, cellsN, blksN]
            · refine ⟨by omega, by omega, by omega, by omega, ⟨⟨mk, rfl, cK⟩, (mh.drop 1), rfl, cH⟩, by kernel_rfl, k + 1, [(3, some 197), (4, some 198)], by omega, by omega, ?_, ?_⟩
              · rw [hS]
                clear hS hstep cH cK hdum hf4'
                (refine ⟨?_, ?_, ?_⟩ <;> simp [fitT, fit1, fitH, fitB, trE, emptyB, rn, lk, AV.ren, AV.ren.renL, Blk.ren, blkIds, blkPids, AV.ids, AV.ids.idsL, AV.pids, AV.pids.pidsL, Blk.there])
                all_goals first | rfl | exact ⟨rfl, rfl⟩
              · rw [hS]; simp [keepIds, rn, cellsN, blksN]
            · refine ⟨by omega, by omega, by omega, by omega, ⟨⟨mk, rfl, cK⟩, (mh.drop 1), rfl, cH⟩, by kernel_rfl, k + 1, [], by omega, by omega, ?_, ?_⟩
              · rw [hS]
                clear hS hstep cH cK hdum hf4'
                (refine ⟨?_, ?_, ?_⟩ <;> simp [fitT, fit1, fitH, fitB, trE, emptyB, rn, lk, AV.ren, AV.ren.renL, Blk.ren, blkIds, blkPids, AV.ids, AV.ids.idsL, AV.pids, AV.pids.pidsL, Blk.there])
                all_goals first | rfl | exact ⟨rfl, rfl⟩
              · rw [hS]; simp [keepIds, rn, cellsN, blksN]
        · have hfull := j3 rfl
          dsimp only at hfull
          have ht : (kRows mk).take 5 = kRows mk := List.take_of_length_le (by rw [kRows_len]; omega)
          have hfull' : (5 = mk.length) = True := eq_true hfull.symm
          have hks : NS.ks ⟨.so, mk, mh, q⟩ = (mk.drop 1) := rfl
          have hhs : NS.hs ⟨.so, mk, mh, q⟩ = mh := rfl
          have cK : (mk.drop 1).length ≤ 1048576 := by rw [List.length_drop]; omega
          have cH : hMid mh := ⟨by omega, fun e he => Nat.le_trans (j6 e he) (by omega)⟩
          clear j3 j4 j5
          by_cases h2 : pickV xs q 2 = 0
          · have h2' : (pickV xs q 2 = 0) = True := eq_true h2
            have hbp : q + 1 + 1 + 1 + 2 * ((pickV xs (q + 1 + 1) 3).toNat : Int) = byteP xs q := rfl
            rw [nStep, if_pos h2, hks, hhs] at hstep
            have bp := byteP_b xs q (by omega)
            have b3 := pickV_lt xs (q + 1 + 1) 3 (by omega)
            have b4 := pickV_nonneg xs (q + 1 + 1) 3 (by omega)
            have hdl : (bytesV xs (q + 1 + 1 + 1) (pickV xs (q + 1 + 1) 3).toNat).length ≤ 1048576 := by rw [bytesV_len]; omega
            have hrow : hRows mh ++ [[.v (.int .i64 (pickV xs (q + 1) 6)), .l 1 (rowsOfBytes (bytesV xs (q + 1 + 1 + 1) (pickV xs (q + 1 + 1) 3).toNat))]] = hRows (mh ++ [⟨(pickV xs (q + 1) 6), (bytesV xs (q + 1 + 1 + 1) (pickV xs (q + 1 + 1) 3).toNat)⟩]) := by rw [← hRows_app]; rfl
            have hdum : ((7 : Int) = 11) = False := eq_false (by omega)
            have hcs : (sOk (mk.drop 1) mh (pickV xs (q + 1) 6) (pickV xs (q + 1 + 1) 3).toNat (pickV xs (byteP xs q) 30) = true ∧ (0 ≤ nfV (mk.drop 1) mh (pickV xs (q + 1) 6) (pickV xs (byteP xs q) 30)) = True ∧ ((7 : Int) = 11) = False ∧ nRun xs p (k + 1) = ⟨.oo, (mk.drop 1), mh, byteP xs q + 1⟩) ∨ (sOk (mk.drop 1) mh (pickV xs (q + 1) 6) (pickV xs (q + 1 + 1) 3).toNat (pickV xs (byteP xs q) 30) = true ∧ (0 ≤ nfV (mk.drop 1) mh (pickV xs (q + 1) 6) (pickV xs (byteP xs q) 30)) = False ∧ (mh.length < 4) = True ∧ nRun xs p (k + 1) = ⟨.oo, (mk.drop 1), mh ++ [⟨(pickV xs (q + 1) 6), (bytesV xs (q + 1 + 1 + 1) (pickV xs (q + 1 + 1) 3).toNat)⟩], byteP xs q + 1⟩) ∨ (sOk (mk.drop 1) mh (pickV xs (q + 1) 6) (pickV xs (q + 1 + 1) 3).toNat (pickV xs (byteP xs q) 30) = true ∧ (0 ≤ nfV (mk.drop 1) mh (pickV xs (q + 1) 6) (pickV xs (byteP xs q) 30)) = False ∧ (mh.length < 4) = False ∧ nRun xs p (k + 1) = ⟨.os, (mk.drop 1), mh ++ [⟨(pickV xs (q + 1) 6), (bytesV xs (q + 1 + 1 + 1) (pickV xs (q + 1 + 1) 3).toNat)⟩], byteP xs q + 1⟩) ∨ (sOk (mk.drop 1) mh (pickV xs (q + 1) 6) (pickV xs (q + 1 + 1) 3).toNat (pickV xs (byteP xs q) 30) = false ∧ ((7 : Int) = 11) = False ∧ ((7 : Int) = 11) = False ∧ nRun xs p (k + 1) = ⟨.nil, [], [], byteP xs q + 1⟩) := by
              rw [sendS, bytesV_len] at hstep
              by_cases ho : sOk (mk.drop 1) mh (pickV xs (q + 1) 6) (pickV xs (q + 1 + 1) 3).toNat (pickV xs (byteP xs q) 30) = true
              · rw [if_pos ho] at hstep
                by_cases hli : (0 ≤ nfV (mk.drop 1) mh (pickV xs (q + 1) 6) (pickV xs (byteP xs q) 30))
                · rw [if_pos hli] at hstep
                  exact .inl ⟨ho, eq_true hli, hdum, hstep⟩
                · rw [if_neg hli] at hstep
                  by_cases hf4 : (mh.length < 4)
                  · rw [if_pos hf4] at hstep
                    exact .inr (.inl ⟨ho, eq_false hli, eq_true hf4, hstep⟩)
                  · rw [if_neg hf4] at hstep
                    exact .inr (.inr (.inl ⟨ho, eq_false hli, eq_false hf4, hstep⟩))
              · rw [if_neg ho] at hstep
                exact .inr (.inr (.inr ⟨Bool.eq_false_iff.2 ho, hdum, hdum, hstep⟩))
            rcases hcs with ⟨ho, hli', hf4', hS⟩ | ⟨ho, hli', hf4', hS⟩ | ⟨ho, hli', hf4', hS⟩ | ⟨ho, hli', hf4', hS⟩ <;> simp (maxSteps := 3000000) only [Try.f41, nears, g_pick, g_odd, g_bytes, g_query, g_sendM, g_hearM, bytesOf_rows, tY2, tY3, tY4, tY5, tY9, tY12, tY21, tY22, tY23, tY24, tY25, tY26, tY39, tY40, tY42, tY43, tY46, tY52, tY53, tY54, tY55, tY64, tY73, tY74, tY95, tY96, tY100, tY102, tY113, tY122, Try.underlying2, Try.underlying3, Try.underlying4, Try.underlying5, Try.underlying9, Try.underlying12, Try.underlying21, Try.underlying22, Try.underlying23, Try.underlying24, Try.underlying25, Try.underlying26, Try.underlying39, Try.underlying40, Try.underlying42, Try.underlying43, Try.underlying46, Try.underlying52, Try.underlying53, Try.underlying54, Try.underlying55, Try.underlying64, Try.underlying73, Try.underlying74, Try.underlying95, Try.underlying96, Try.underlying100, Try.underlying102, Try.underlying113, Try.underlying122, e_skip, e_label, e_ret, e_exit, e_seq, e_cond, e_block, e_region, seqK_normal, seqK_ret, seqK_exit, blkK_normal, blkK_ret, blkK_exit, condK_some, regK_true, regK_false, e_nil, e_cons, gateK_go, gateK_skip, gateK_ask, pickK_some, exK_some, x_pick, x_move, x_assign, x_alloc, x_box, x_build, x_buildSlice, x_load, x_store, x_binOp, x_unOp, x_convert, x_makeSlice, x_slice, x_fieldAddr, x_field, x_indexAddr, x_extract, x_nilCheck, x_call, x_len, x_append, x_min, oMin, x_copy, oCopy, eqAVs, callK_some, done_ret, done_normal, doneO_ret, doneO_normal, endsO_one, endsO_nil, endsO_more, ownAbs, frzAbs, leafs, leafs.leafsL, uniq, idxOf, bk, zipB, Blk.liveB, gate_none, gate_some, gateS_none, gateS_some, gateV_bool, gateV_undef, boolOf, evA, putT, refn, fpD, oBin, oUn, upsl, upl, up, ups, lk, dstsOf, resL, resA, packA, oLoadQ, oLoadKid, oStoreQ, oStoreTree, oBuildSliceQ, oBuildTree, oAppendQ, oAppendTree, isTr, isTrP, tkd, tkds, tkRows, ownOf, nodupB, deadL, treeOf, kidAbs, kidBlk, kidRows, TK.isCell, D.toL, oLoad, oStore, oAlloc, oBox, oBuild, oBuildSlice, oMake, oAppend, oIndexAddr, oFieldAddr, oField, oExtract, oNil, oSlice, oLen, oConvert, rowLoad, fillA, fillR, slB, dk, dks, dkRows, frz, loOf, hiOf, lenOf, rowsOf, nilV, lenV, putAt, views, viewsOk, CK.av, CK.ok, AV.cells, AV.one, Value.oneCell', Value.cells, pureAbs, nrm, nrm.nrmL, hpAt, sh, AV.ren, AV.ren.renL, Blk.ren, fpOf, footO, foot, blkIds, AV.ids, AV.ids.idsL, Op.operands, Call.operands, List.find?_cons, List.find?_nil, Nat.reduceBEq, beq_self_eq_true, List.map_cons, List.map_nil, List.getD_cons_zero, List.getD_cons_succ, List.getD_nil, List.set_cons_zero, List.set_cons_succ, List.length_cons, List.length_nil, List.replicate, List.cons_append, List.nil_append, List.append_nil, List.getElem?_cons_zero, List.getElem?_cons_succ, List.getElem?_toArray, List.getElem?_nil, List.take_zero, List.take_succ_cons, List.take_nil, List.drop_zero, List.drop_succ_cons, List.drop_nil, List.headD_cons, List.tail_cons, List.flatten_cons, List.flatten_nil, List.flatMap_cons, List.flatMap_nil, List.toList_toArray, Array.toList_append, Option.bind_some, Option.map_some, Option.map_none, Option.isSome_some, List.all_nil, List.all_cons, Bool.and_self, Bool.and_true, Bool.true_and, true_and, and_true, ↓reduceIte, List.size_toArray, Bool.false_eq_true, Bool.true_eq_false, false_implies, true_implies, Bool.not_true, Bool.not_false, and_self, implies_true, decide_true, decide_false, Nat.reduceAdd, Nat.reduceMul, Nat.reduceLT, Nat.reduceSub, Nat.reduceLeDiff, Nat.reduceEqDiff, eq_self, ne_eq, not_false_eq_true, false_and, and_false, reduceCtorEq, List.filter_nil, List.filter_cons, List.isEmpty_nil, List.isEmpty_cons, bne_self_eq_false, Nat.reduceBneDiff, Nat.lt_add_one, Nat.zero_lt_succ, List.append_assoc, Nat.zero_le, and_self_iff, Int.reduceToNat, List.any_nil, List.any_cons, List.filterMap_nil, List.filterMap_cons, List.contains_nil, List.contains_cons, Bool.or_false, Bool.false_or, Bool.or_true, Bool.true_or, Bool.false_and, Bool.and_false, decide_eq_true_eq, decide_eq_false_iff_not, beq_iff_eq, Int.toNat_natCast, hlt, loopK_normal, loopK_exit, loopK_ret, hw, cellsN, blksN, h2', hbp, ho, sendR, sendB, hx, ksOf_rows, hsOf_rows, kRows_len, hRows_len, rowsOf_len, bytesV_len, hrow, ht, kRows_drop, hfull', hli', hf4']
            · refine ⟨by omega, by omega, by omega, by omega, by omega, ⟨⟨(mk.drop 1), rfl, cK⟩, ⟨mh, rfl, cH⟩, _, rfl, hdl⟩, by kernel_rfl, k + 1, [(3, some 229), (4, some 230)], by omega, by omega, ?_, ?_⟩
              · rw [hS]
                clear hS hstep cH cK hrow hdum hli' hf4'
                (refine ⟨?_, ?_, ?_⟩ <;> simp [fitT, fit1, fitH, fitB, trE, emptyB, rn, lk, AV.ren, AV.ren.renL, Blk.ren, blkIds, blkPids, AV.ids, AV.ids.idsL, AV.pids, AV.pids.pidsL, Blk.there])
                all_goals first | rfl | exact ⟨rfl, rfl⟩
              · rw [hS]; simp [keepIds, rn, cellsN, blksN]
            · refine ⟨by omega, by omega, by omega, by omega, by omega, ⟨⟨(mk.drop 1), rfl, cK⟩, ⟨mh, rfl, cH⟩, _, rfl, hdl⟩, by kernel_rfl, k + 1, [(3, some 229), (4, some 230)], by omega, by omega, ?_, ?_⟩
              · rw [hS]
                clear hS hstep cH cK hrow hdum hli' hf4'
                (refine ⟨?_, ?_, ?_⟩ <;> simp [fitT, fit1, fitH, fitB, trE, emptyB, rn, lk, AV.ren, AV.ren.renL, Blk.ren, blkIds, blkPids, AV.ids, AV.ids.idsL, AV.pids, AV.pids.pidsL, Blk.there])
                all_goals first | rfl | exact ⟨rfl, rfl⟩
              · rw [hS]; simp [keepIds, rn, cellsN, blksN]
            · refine ⟨by omega, by omega, by omega, by omega, by omega, ⟨⟨(mk.drop 1), rfl, cK⟩, ⟨mh, rfl, cH⟩, _, rfl, hdl⟩, by kernel_rfl, k + 1, [(3, some 229), (4, some 230)], by omega, by omega, ?_, ?_⟩
              · rw [hS]
                clear hS hstep cH cK hrow hdum hli' hf4'
                (refine ⟨?_, ?_, ?_⟩ <;> simp [fitT, fit1, fitH, fitB, trE, emptyB, rn, lk, AV.ren, AV.ren.renL, Blk.ren, blkIds, blkPids, AV.ids, AV.ids.idsL, AV.pids, AV.pids.pidsL, Blk.there])
                all_goals first | rfl | exact ⟨rfl, rfl⟩
              · rw [hS]; simp [keepIds, rn, cellsN, blksN]
            · refine ⟨by omega, by omega, by omega, by omega, by omega, ⟨⟨(mk.drop 1), rfl, cK⟩, ⟨mh, rfl, cH⟩, _, rfl, hdl⟩, by kernel_rfl, k + 1, [], by omega, by omega, ?_, ?_⟩
              · rw [hS]
                clear hS hstep cH cK hrow hdum hli' hf4'
                (refine ⟨?_, ?_, ?_⟩ <;> simp [fitT, fit1, fitH, fitB, trE, emptyB, rn, lk, AV.ren, AV.ren.renL, Blk.ren, blkIds, blkPids, AV.ids, AV.ids.idsL, AV.pids, AV.pids.pidsL, Blk.there])
                all_goals first | rfl | exact ⟨rfl, rfl⟩
              · rw [hS]; simp [keepIds, rn, cellsN, blksN]
          · have h2' : (pickV xs q 2 = 0) = False := eq_false h2
            obtain ⟨Q, hQ⟩ : ∃ Q, Q = queryV xs (q + 1 + 1) 0 := ⟨_, rfl⟩
            have hQ' := hQ.symm
            have hqp := queryV_p xs (q + 1 + 1) 0
            rw [nStep, if_neg h2, hks, hhs] at hstep
            dsimp only at hstep
            rw [hQ'] at hqp hstep
            clear hQ
            have hdum : ((7 : Int) = 11) = False := eq_false (by omega)
            have hcs : (rOk (mk.drop 1) mh Q.k Q.l Q.a Q.w (pickV xs Q.p 30) = true ∧ wantB (mk.drop 1) mh (pickV xs (q + 1) 6) Q.a Q.w = true ∧ ((kOut (mk.drop 1) Q.a).length < 4) = True ∧ nRun xs p (k + 1) = ⟨.oo, (kOut (mk.drop 1) Q.a) ++ [⟨Q.a, Q.l, (pickV xs Q.p 30) + 20⟩], hOut mh Q.a, Q.p + 1⟩) ∨ (rOk (mk.drop 1) mh Q.k Q.l Q.a Q.w (pickV xs Q.p 30) = true ∧ wantB (mk.drop 1) mh (pickV xs (q + 1) 6) Q.a Q.w = true ∧ ((kOut (mk.drop 1) Q.a).length < 4) = False ∧ nRun xs p (k + 1) = ⟨.so, (kOut (mk.drop 1) Q.a) ++ [⟨Q.a, Q.l, (pickV xs Q.p 30) + 20⟩], hOut mh Q.a, Q.p + 1⟩) ∨ (rOk (mk.drop 1) mh Q.k Q.l Q.a Q.w (pickV xs Q.p 30) = true ∧ wantB (mk.drop 1) mh (pickV xs (q + 1) 6) Q.a Q.w = false ∧ ((7 : Int) = 11) = False ∧ nRun xs p (k + 1) = ⟨.oo, (mk.drop 1), mh, Q.p + 1⟩) ∨ (rOk (mk.drop 1) mh Q.k Q.l Q.a Q.w (pickV xs Q.p 30) = false ∧ ((7 : Int) = 11) = False ∧ ((7 : Int) = 11) = False ∧ nRun xs p (k + 1) = ⟨.nil, [], [], Q.p + 1⟩) := by
              rw [hearS] at hstep
              by_cases ho : rOk (mk.drop 1) mh Q.k Q.l Q.a Q.w (pickV xs Q.p 30) = true
              · rw [if_pos ho] at hstep
                by_cases hwb : wantB (mk.drop 1) mh (pickV xs (q + 1) 6) Q.a Q.w = true
                · rw [if_pos hwb] at hstep
                  by_cases hf4 : ((kOut (mk.drop 1) Q.a).length < 4)
                  · rw [if_pos hf4] at hstep
                    exact .inl ⟨ho, hwb, eq_true hf4, hstep⟩
                  · rw [if_neg hf4] at hstep
                    exact .inr (.inl ⟨ho, hwb, eq_false hf4, hstep⟩)
                · rw [if_neg hwb] at hstep
                  exact .inr (.inr (.inl ⟨ho, Bool.eq_false_iff.2 hwb, hdum, hstep⟩))
              · rw [if_neg ho] at hstep
                exact .inr (.inr (.inr (⟨Bool.eq_false_iff.2 ho, hdum, hdum, hstep⟩)))
            rcases hcs with ⟨ho, hwb, hf4', hS⟩ | ⟨ho, hwb, hf4', hS⟩ | ⟨ho, hwb, hf4', hS⟩ | ⟨ho, hwb, hf4', hS⟩ <;> simp (maxSteps := 3000000) only [Try.f41, nears, g_pick, g_odd, g_bytes, g_query, g_sendM, g_hearM, bytesOf_rows, tY2, tY3, tY4, tY5, tY9, tY12, tY21, tY22, tY23, tY24, tY25, tY26, tY39, tY40, tY42, tY43, tY46, tY52, tY53, tY54, tY55, tY64, tY73, tY74, tY95, tY96, tY100, tY102, tY113, tY122, Try.underlying2, Try.underlying3, Try.underlying4, Try.underlying5, Try.underlying9, Try.underlying12, Try.underlying21, Try.underlying22, Try.underlying23, Try.underlying24, Try.underlying25, Try.underlying26, Try.underlying39, Try.underlying40, Try.underlying42, Try.underlying43, Try.underlying46, Try.underlying52, Try.underlying53, Try.underlying54, Try.underlying55, Try.underlying64, Try.underlying73, Try.underlying74, Try.underlying95, Try.underlying96, Try.underlying100, Try.underlying102, Try.underlying113, Try.underlying122, e_skip, e_label, e_ret, e_exit, e_seq, e_cond, e_block, e_region, seqK_normal, seqK_ret, seqK_exit, blkK_normal, blkK_ret, blkK_exit, condK_some, regK_true, regK_false, e_nil, e_cons, gateK_go, gateK_skip, gateK_ask, pickK_some, exK_some, x_pick, x_move, x_assign, x_alloc, x_box, x_build, x_buildSlice, x_load, x_store, x_binOp, x_unOp, x_convert, x_makeSlice, x_slice, x_fieldAddr, x_field, x_indexAddr, x_extract, x_nilCheck, x_call, x_len, x_append, x_min, oMin, x_copy, oCopy, eqAVs, callK_some, done_ret, done_normal, doneO_ret, doneO_normal, endsO_one, endsO_nil, endsO_more, ownAbs, frzAbs, leafs, leafs.leafsL, uniq, idxOf, bk, zipB, Blk.liveB, gate_none, gate_some, gateS_none, gateS_some, gateV_bool, gateV_undef, boolOf, evA, putT, refn, fpD, oBin, oUn, upsl, upl, up, ups, lk, dstsOf, resL, resA, packA, oLoadQ, oLoadKid, oStoreQ, oStoreTree, oBuildSliceQ, oBuildTree, oAppendQ, oAppendTree, isTr, isTrP, tkd, tkds, tkRows, ownOf, nodupB, deadL, treeOf, kidAbs, kidBlk, kidRows, TK.isCell, D.toL, oLoad, oStore, oAlloc, oBox, oBuild, oBuildSlice, oMake, oAppend, oIndexAddr, oFieldAddr, oField, oExtract, oNil, oSlice, oLen, oConvert, rowLoad, fillA, fillR, slB, dk, dks, dkRows, frz, loOf, hiOf, lenOf, rowsOf, nilV, lenV, putAt, views, viewsOk, CK.av, CK.ok, AV.cells, AV.one, Value.oneCell', Value.cells, pureAbs, nrm, nrm.nrmL, hpAt, sh, AV.ren, AV.ren.renL, Blk.ren, fpOf, footO, foot, blkIds, AV.ids, AV.ids.idsL, Op.operands, Call.operands, List.find?_cons, List.find?_nil, Nat.reduceBEq, beq_self_eq_true, List.map_cons, List.map_nil, List.getD_cons_zero, List.getD_cons_succ, List.getD_nil, List.set_cons_zero, List.set_cons_succ, List.length_cons, List.length_nil, List.replicate, List.cons_append, List.nil_append, List.append_nil, List.getElem?_cons_zero, List.getElem?_cons_succ, List.getElem?_toArray, List.getElem?_nil, List.take_zero, List.take_succ_cons, List.take_nil, List.drop_zero, List.drop_succ_cons, List.drop_nil, List.headD_cons, List.tail_cons, List.flatten_cons, List.flatten_nil, List.flatMap_cons, List.flatMap_nil, List.toList_toArray, Array.toList_append, Option.bind_some, Option.map_some, Option.map_none, Option.isSome_some, List.all_nil, List.all_cons, Bool.and_self, Bool.and_true, Bool.true_and, true_and, and_true, ↓reduceIte, List.size_toArray, Bool.false_eq_true, Bool.true_eq_false, false_implies, true_implies, Bool.not_true, Bool.not_false, and_self, implies_true, decide_true, decide_false, Nat.reduceAdd, Nat.reduceMul, Nat.reduceLT, Nat.reduceSub, Nat.reduceLeDiff, Nat.reduceEqDiff, eq_self, ne_eq, not_false_eq_true, false_and, and_false, reduceCtorEq, List.filter_nil, List.filter_cons, List.isEmpty_nil, List.isEmpty_cons, bne_self_eq_false, Nat.reduceBneDiff, Nat.lt_add_one, Nat.zero_lt_succ, List.append_assoc, Nat.zero_le, and_self_iff, Int.reduceToNat, List.any_nil, List.any_cons, List.filterMap_nil, List.filterMap_cons, List.contains_nil, List.contains_cons, Bool.or_false, Bool.false_or, Bool.or_true, Bool.true_or, Bool.false_and, Bool.and_false, decide_eq_true_eq, decide_eq_false_iff_not, beq_iff_eq, Int.toNat_natCast, hlt, loopK_normal, loopK_exit, loopK_ret, hw, cellsN, blksN, h2', hQ', ho, hearR, hearB, hx, ksOf_rows, hsOf_rows, kRows_len, hRows_len, ht, kRows_drop, hfull', hwb, hf4']
            · refine ⟨by omega, by omega, by omega, by omega, ⟨⟨(mk.drop 1), rfl, cK⟩, mh, rfl, cH⟩, by kernel_rfl, k + 1, [(3, some 197), (4, some 198)], by omega, by omega, ?_, ?_⟩
              · rw [hS]
                clear hS hstep cH cK hdum hf4'
                (refine ⟨?_, ?_, ?_⟩ <;> simp [fitT, fit1, fitH, fitB, trE, emptyB, rn, lk, AV.ren, AV.ren.renL, Blk.ren, blkIds, blkPids, AV.ids, AV.ids.idsL, AV.pids, AV.pids.pidsL, Blk.there])
                all_goals first | rfl | exact ⟨rfl, rfl⟩
              · rw [hS]; simp [keepIds, rn, cellsN, blksN]
            · refine ⟨by omega, by omega, by omega, by omega, ⟨⟨(mk.drop 1), rfl, cK⟩, mh, rfl, cH⟩, by kernel_rfl, k + 1, [(3, some 197), (4, some 198)], by omega, by omega, ?_, ?_⟩
              · rw [hS]
                clear hS hstep cH cK hdum hf4'
                (refine ⟨?_, ?_, ?_⟩ <;> simp [fitT, fit1, fitH, fitB, trE, emptyB, rn, lk, AV.ren, AV.ren.renL, Blk.ren, blkIds, blkPids, AV.ids, AV.ids.idsL, AV.pids, AV.pids.pidsL, Blk.there])
                all_goals first | rfl | exact ⟨rfl, rfl⟩
              · rw [hS]; simp [keepIds, rn, cellsN, blksN]
            · refine ⟨by omega, by omega, by omega, by omega, ⟨⟨(mk.drop 1), rfl, cK⟩, mh, rfl, cH⟩, by kernel_rfl, k + 1, [(3, some 197), (4, some 198)], by omega, by omega, ?_, ?_⟩
              · rw [hS]
                clear hS hstep cH cK hdum hf4'
                (refine ⟨?_, ?_, ?_⟩ <;> simp [fitT, fit1, fitH, fitB, trE, emptyB, rn, lk, AV.ren, AV.ren.renL, Blk.ren, blkIds, blkPids, AV.ids, AV.ids.idsL, AV.pids, AV.pids.pidsL, Blk.there])
                all_goals first | rfl | exact ⟨rfl, rfl⟩
              · rw [hS]; simp [keepIds, rn, cellsN, blksN]
            · refine ⟨by omega, by omega, by omega, by omega, ⟨⟨(mk.drop 1), rfl, cK⟩, mh, rfl, cH⟩, by kernel_rfl, k + 1, [], by omega, by omega, ?_, ?_⟩
              · rw [hS]
                clear hS hstep cH cK hdum hf4'
                (refine ⟨?_, ?_, ?_⟩ <;> simp [fitT, fit1, fitH, fitB, trE, emptyB, rn, lk, AV.ren, AV.ren.renL, Blk.ren, blkIds, blkPids, AV.ids, AV.ids.idsL, AV.pids, AV.pids.pidsL, Blk.there])
                all_goals first | rfl | exact ⟨rfl, rfl⟩
              · rw [hS]; simp [keepIds, rn, cellsN, blksN]
      · have hkN : k = N := by omega
        subst hkN
        have hlt : (0 < (k : Int) - (k : Int)) = False := eq_false (by omega)
        have hN' : nearV xs p n = finS xs v n := by rw [nearV, ← hN, ← hv]
        rw [hN']
        have hk9 : k ≤ 10 := by omega
        clear hv hstep hN hN' hpk hw
        obtain ⟨e, he⟩ : ∃ e, e = oneIf n := ⟨_, rfl⟩
        have be := oneIf_le n
        rw [← he] at be
        have he' : (if 0 < n then (1 : Int) else 0) = e := he.symm
        obtain ⟨f, mk, mh, q⟩ := v
        obtain ⟨j1, j2, j3, j4, j5, j6⟩ := i1
        dsimp only at i2 i3 j1 j2 j6
        cases f
        · obtain ⟨h5, h6⟩ := j5 rfl
          dsimp only at h5 h6
          subst h5
          subst h6
          have hks : NS.ks (⟨.nil, [], [], q⟩ : NS) = [] := rfl
          have hhs : NS.hs (⟨.nil, [], [], q⟩ : NS) = [] := rfl
          have hrowK : kRows [] ++ [[.v (.int .i64 (pickV xs (q + e + 1) 6)), .v (.int .i64 (pickV xs (q + e + 1 + 1) 300)), .v (.int .i64 (pickV xs (q + e + 1 + 1 + 1) 9))]] = kRows ([] ++ [⟨(pickV xs (q + e + 1) 6), (pickV xs (q + e + 1 + 1) 300), (pickV xs (q + e + 1 + 1 + 1) 9)⟩]) := by rw [← kRows_app]; rfl
          have hrowH : hRows [] ++ [[.v (.int .i64 (pickV xs (q + e + 1) 6)), .l 1 []], [.v (.int .i64 65536), .l 1 []]] = hRows ([] ++ [⟨(pickV xs (q + e + 1) 6), []⟩, ⟨65536, []⟩]) := by rw [← hRows_app]; rfl
          have hdum : ((7 : Int) = 11) = False := eq_false (by omega)
          have hcs : ((decide (0 < n) && pickV xs q n == n - 1) = true ∧ (pickV xs (q + e) 3 = 0) = True ∧ ((7 : Int) = 11) = False ∧ finS xs (⟨.nil, [], [], q⟩ : NS) n = ⟨3, 1, [] ++ [⟨(pickV xs (q + e + 1) 6), (pickV xs (q + e + 1 + 1) 300), (pickV xs (q + e + 1 + 1 + 1) 9)⟩], [], q + e + 1 + 1 + 1 + 1⟩) ∨ ((decide (0 < n) && pickV xs q n == n - 1) = true ∧ (pickV xs (q + e) 3 = 0) = False ∧ (pickV xs (q + e) 3 = 1) = True ∧ finS xs (⟨.nil, [], [], q⟩ : NS) n = ⟨1, 2, [], [] ++ [⟨(pickV xs (q + e + 1) 6), []⟩, ⟨65536, []⟩], q + e + 1 + 1⟩) ∨ ((decide (0 < n) && pickV xs q n == n - 1) = true ∧ (pickV xs (q + e) 3 = 0) = False ∧ (pickV xs (q + e) 3 = 1) = False ∧ finS xs (⟨.nil, [], [], q⟩ : NS) n = ⟨3, 1, [] ++ [], [], q + e + 1⟩) ∨ ((decide (0 < n) && pickV xs q n == n - 1) = false ∧ ((7 : Int) = 11) = False ∧ ((7 : Int) = 11) = False ∧ finS xs (⟨.nil, [], [], q⟩ : NS) n = ⟨1, 1, [], [], q + e⟩) := by
            by_cases ho : (decide (0 < n) && pickV xs q n == n - 1) = true
            · by_cases h0 : (pickV xs (q + e) 3 = 0)
              · exact .inl ⟨ho, eq_true h0, hdum, by rw [finS, ← he, if_pos ho, if_pos h0]; rfl⟩
              · by_cases h1 : (pickV xs (q + e) 3 = 1)
                · exact .inr (.inl ⟨ho, eq_false h0, eq_true h1, by rw [finS, ← he, if_pos ho, if_neg h0, if_pos h1]; rfl⟩)
                · exact .inr (.inr (.inl ⟨ho, eq_false h0, eq_false h1, by rw [finS, ← he, if_pos ho, if_neg h0, if_neg h1]; rfl⟩))
            · exact .inr (.inr (.inr ⟨Bool.eq_false_iff.2 ho, hdum, hdum, by rw [finS, ← he, if_neg ho]; rfl⟩))
          rcases hcs with ⟨ho, h0', h1', hF⟩ | ⟨ho, h0', h1', hF⟩ | ⟨ho, h0', h1', hF⟩ | ⟨ho, h0', h1', hF⟩ <;> rw [hF] <;> simp (maxSteps := 3000000) only [Try.f41, nears, g_pick, g_odd, g_bytes, g_query, g_sendM, g_hearM, bytesOf_rows, tY2, tY3, tY4, tY5, tY9, tY12, tY21, tY22, tY23, tY24, tY25, tY26, tY39, tY40, tY42, tY43, tY46, tY52, tY53, tY54, tY55, tY64, tY73, tY74, tY95, tY96, tY100, tY102, tY113, tY122, Try.underlying2, Try.underlying3, Try.underlying4, Try.underlying5, Try.underlying9, Try.underlying12, Try.underlying21, Try.underlying22, Try.underlying23, Try.underlying24, Try.underlying25, Try.underlying26, Try.underlying39, Try.underlying40, Try.underlying42, Try.underlying43, Try.underlying46, Try.underlying52, Try.underlying53, Try.underlying54, Try.underlying55, Try.underlying64, Try.underlying73, Try.underlying74, Try.underlying95, Try.underlying96, Try.underlying100, Try.underlying102, Try.underlying113, Try.underlying122, e_skip, e_label, e_ret, e_exit, e_seq, e_cond, e_block, e_region, seqK_normal, seqK_ret, seqK_exit, blkK_normal, blkK_ret, blkK_exit, condK_some, regK_true, regK_false, e_nil, e_cons, gateK_go, gateK_skip, gateK_ask, pickK_some, exK_some, x_pick, x_move, x_assign, x_alloc, x_box, x_build, x_buildSlice, x_load, x_store, x_binOp, x_unOp, x_convert, x_makeSlice, x_slice, x_fieldAddr, x_field, x_indexAddr, x_extract, x_nilCheck, x_call, x_len, x_append, x_min, oMin, x_copy, oCopy, eqAVs, callK_some, done_ret, done_normal, doneO_ret, doneO_normal, endsO_one, endsO_nil, endsO_more, ownAbs, frzAbs, leafs, leafs.leafsL, uniq, idxOf, bk, zipB, Blk.liveB, gate_none, gate_some, gateS_none, gateS_some, gateV_bool, gateV_undef, boolOf, evA, putT, refn, fpD, oBin, oUn, upsl, upl, up, ups, lk, dstsOf, resL, resA, packA, oLoadQ, oLoadKid, oStoreQ, oStoreTree, oBuildSliceQ, oBuildTree, oAppendQ, oAppendTree, isTr, isTrP, tkd, tkds, tkRows, ownOf, nodupB, deadL, treeOf, kidAbs, kidBlk, kidRows, TK.isCell, D.toL, oLoad, oStore, oAlloc, oBox, oBuild, oBuildSlice, oMake, oAppend, oIndexAddr, oFieldAddr, oField, oExtract, oNil, oSlice, oLen, oConvert, rowLoad, fillA, fillR, slB, dk, dks, dkRows, frz, loOf, hiOf, lenOf, rowsOf, nilV, lenV, putAt, views, viewsOk, CK.av, CK.ok, AV.cells, AV.one, Value.oneCell', Value.cells, pureAbs, nrm, nrm.nrmL, hpAt, sh, AV.ren, AV.ren.renL, Blk.ren, fpOf, footO, foot, blkIds, AV.ids, AV.ids.idsL, Op.operands, Call.operands, List.find?_cons, List.find?_nil, Nat.reduceBEq, beq_self_eq_true, List.map_cons, List.map_nil, List.getD_cons_zero, List.getD_cons_succ, List.getD_nil, List.set_cons_zero, List.set_cons_succ, List.length_cons, List.length_nil, List.replicate, List.cons_append, List.nil_append, List.append_nil, List.getElem?_cons_zero, List.getElem?_cons_succ, List.getElem?_toArray, List.getElem?_nil, List.take_zero, List.take_succ_cons, List.take_nil, List.drop_zero, List.drop_succ_cons, List.drop_nil, List.headD_cons, List.tail_cons, List.flatten_cons, List.flatten_nil, List.flatMap_cons, List.flatMap_nil, List.toList_toArray, Array.toList_append, Option.bind_some, Option.map_some, Option.map_none, Option.isSome_some, List.all_nil, List.all_cons, Bool.and_self, Bool.and_true, Bool.true_and, true_and, and_true, ↓reduceIte, List.size_toArray, Bool.false_eq_true, Bool.true_eq_false, false_implies, true_implies, Bool.not_true, Bool.not_false, and_self, implies_true, decide_true, decide_false, Nat.reduceAdd, Nat.reduceMul, Nat.reduceLT, Nat.reduceSub, Nat.reduceLeDiff, Nat.reduceEqDiff, eq_self, ne_eq, not_false_eq_true, false_and, and_false, reduceCtorEq, List.filter_nil, List.filter_cons, List.isEmpty_nil, List.isEmpty_cons, bne_self_eq_false, Nat.reduceBneDiff, Nat.lt_add_one, Nat.zero_lt_succ, List.append_assoc, Nat.zero_le, and_self_iff, Int.reduceToNat, List.any_nil, List.any_cons, List.filterMap_nil, List.filterMap_cons, List.contains_nil, List.contains_cons, Bool.or_false, Bool.false_or, Bool.or_true, Bool.true_or, Bool.false_and, Bool.and_false, decide_eq_true_eq, decide_eq_false_iff_not, beq_iff_eq, Int.toNat_natCast, hlt, loopK_normal, loopK_exit, loopK_ret, doneL_ret, he', hx, cellsN, blksN, kRows_len, hRows_len, ho, h0', h1', hrowK, hrowH, kRows_app, Bool.false_eq_true, ↓reduceIte]
          · refine ⟨by omega, by omega, by omega, by omega, by omega, ?_, by kernel_rfl, ?_⟩
            · first | trivial | (simp; done) | (refine ⟨?_, ?_, ?_⟩ <;> first | omega | exact kRows_w _ | (simp; done) | (simp; omega))
            · refine ⟨_, rfl, ?_, rfl⟩
              first | rfl | simp [packA, nrm, nrm.nrmL, hRows_tail, kRows_tail]
          · refine ⟨by omega, by omega, by omega, ?_, by kernel_rfl, ?_⟩
            · first | trivial | (simp; done) | (refine ⟨?_, ?_, ?_⟩ <;> first | omega | exact kRows_w _ | (simp; done) | (simp; omega))
            · refine ⟨_, rfl, ?_, rfl⟩
              first | rfl | simp [packA, nrm, nrm.nrmL, hRows_tail, kRows_tail]
          · refine ⟨by omega, by omega, ?_, ?_⟩
            · first | trivial | (simp; done) | (refine ⟨?_, ?_, ?_⟩ <;> first | omega | exact kRows_w _ | (simp; done) | (simp; omega))
            · refine ⟨_, rfl, ?_, rfl⟩
              first | rfl | simp [packA, nrm, nrm.nrmL, hRows_tail, kRows_tail]
          · refine ⟨by omega, ?_⟩
            refine ⟨_, rfl, ?_, rfl⟩
            first | rfl | simp [packA, nrm, nrm.nrmL, hRows_tail, kRows_tail]
        · have hks : NS.ks (⟨.oo, mk, mh, q⟩ : NS) = mk := rfl
          have hhs : NS.hs (⟨.oo, mk, mh, q⟩ : NS) = mh := rfl
          have hrowK : kRows mk ++ [[.v (.int .i64 (pickV xs (q + e + 1) 6)), .v (.int .i64 (pickV xs (q + e + 1 + 1) 300)), .v (.int .i64 (pickV xs (q + e + 1 + 1 + 1) 9))]] = kRows (mk ++ [⟨(pickV xs (q + e + 1) 6), (pickV xs (q + e + 1 + 1) 300), (pickV xs (q + e + 1 + 1 + 1) 9)⟩]) := by rw [← kRows_app]; rfl
          have hrowH : hRows mh ++ [[.v (.int .i64 (pickV xs (q + e + 1) 6)), .l 1 []], [.v (.int .i64 65536), .l 1 []]] = hRows (mh ++ [⟨(pickV xs (q + e + 1) 6), []⟩, ⟨65536, []⟩]) := by rw [← hRows_app]; rfl
          have hdum : ((7 : Int) = 11) = False := eq_false (by omega)
          have hcs : ((decide (0 < n) && pickV xs q n == n - 1) = true ∧ (pickV xs (q + e) 3 = 0) = True ∧ ((7 : Int) = 11) = False ∧ finS xs (⟨.oo, mk, mh, q⟩ : NS) n = ⟨3, 2, mk ++ [⟨(pickV xs (q + e + 1) 6), (pickV xs (q + e + 1 + 1) 300), (pickV xs (q + e + 1 + 1 + 1) 9)⟩], mh, q + e + 1 + 1 + 1 + 1⟩) ∨ ((decide (0 < n) && pickV xs q n == n - 1) = true ∧ (pickV xs (q + e) 3 = 0) = False ∧ (pickV xs (q + e) 3 = 1) = True ∧ finS xs (⟨.oo, mk, mh, q⟩ : NS) n = ⟨3, 2, mk, mh ++ [⟨(pickV xs (q + e + 1) 6), []⟩, ⟨65536, []⟩], q + e + 1 + 1⟩) ∨ ((decide (0 < n) && pickV xs q n == n - 1) = true ∧ (pickV xs (q + e) 3 = 0) = False ∧ (pickV xs (q + e) 3 = 1) = False ∧ finS xs (⟨.oo, mk, mh, q⟩ : NS) n = ⟨3, 2, mk ++ mk, mh, q + e + 1⟩) ∨ ((decide (0 < n) && pickV xs q n == n - 1) = false ∧ ((7 : Int) = 11) = False ∧ ((7 : Int) = 11) = False ∧ finS xs (⟨.oo, mk, mh, q⟩ : NS) n = ⟨3, 2, mk, mh, q + e⟩) := by
            by_cases ho : (decide (0 < n) && pickV xs q n == n - 1) = true
            · by_cases h0 : (pickV xs (q + e) 3 = 0)
              · exact .inl ⟨ho, eq_true h0, hdum, by rw [finS, ← he, if_pos ho, if_pos h0]; rfl⟩
              · by_cases h1 : (pickV xs (q + e) 3 = 1)
                · exact .inr (.inl ⟨ho, eq_false h0, eq_true h1, by rw [finS, ← he, if_pos ho, if_neg h0, if_pos h1]; rfl⟩)
                · exact .inr (.inr (.inl ⟨ho, eq_false h0, eq_false h1, by rw [finS, ← he, if_pos ho, if_neg h0, if_neg h1]; rfl⟩))
            · exact .inr (.inr (.inr ⟨Bool.eq_false_iff.2 ho, hdum, hdum, by rw [finS, ← he, if_neg ho]; rfl⟩))
          rcases hcs with ⟨ho, h0', h1', hF⟩ | ⟨ho, h0', h1', hF⟩ | ⟨ho, h0', h1', hF⟩ | ⟨ho, h0', h1', hF⟩ <;> rw [hF] <;> simp (maxSteps := 3000000) only [Try.f41, nears, g_pick, g_odd, g_bytes, g_query, g_sendM, g_hearM, bytesOf_rows, tY2, tY3, tY4, tY5, tY9, tY12, tY21, tY22, tY23, tY24, tY25, tY26, tY39, tY40, tY42, tY43, tY46, tY52, tY53, tY54, tY55, tY64, tY73, tY74, tY95, tY96, tY100, tY102, tY113, tY122, Try.underlying2, Try.underlying3, Try.underlying4, Try.underlying5, Try.underlying9, Try.underlying12, Try.underlying21, Try.underlying22, Try.underlying23, Try.underlying24, Try.underlying25, Try.underlying26, Try.underlying39, Try.underlying40, Try.underlying42, Try.underlying43, Try.underlying46, Try.underlying52, Try.underlying53, Try.underlying54, Try.underlying55, Try.underlying64, Try.underlying73, Try.underlying74, Try.underlying95, Try.underlying96, Try.underlying100, Try.underlying102, Try.underlying113, Try.underlying122, e_skip, e_label, e_ret, e_exit, e_seq, e_cond, e_block, e_region, seqK_normal, seqK_ret, seqK_exit, blkK_normal, blkK_ret, blkK_exit, condK_some, regK_true, regK_false, e_nil, e_cons, gateK_go, gateK_skip, gateK_ask, pickK_some, exK_some, x_pick, x_move, x_assign, x_alloc, x_box, x_build, x_buildSlice, x_load, x_store, x_binOp, x_unOp, x_convert, x_makeSlice, x_slice, x_fieldAddr, x_field, x_indexAddr, x_extract, x_nilCheck, x_call, x_len, x_append, x_min, oMin, x_copy, oCopy, eqAVs, callK_some, done_ret, done_normal, doneO_ret, doneO_normal, endsO_one, endsO_nil, endsO_more, ownAbs, frzAbs, leafs, leafs.leafsL, uniq, idxOf, bk, zipB, Blk.liveB, gate_none, gate_some, gateS_none, gateS_some, gateV_bool, gateV_undef, boolOf, evA, putT, refn, fpD, oBin, oUn, upsl, upl, up, ups, lk, dstsOf, resL, resA, packA, oLoadQ, oLoadKid, oStoreQ, oStoreTree, oBuildSliceQ, oBuildTree, oAppendQ, oAppendTree, isTr, isTrP, tkd, tkds, tkRows, ownOf, nodupB, deadL, treeOf, kidAbs, kidBlk, kidRows, TK.isCell, D.toL, oLoad, oStore, oAlloc, oBox, oBuild, oBuildSlice, oMake, oAppend, oIndexAddr, oFieldAddr, oField, oExtract, oNil, oSlice, oLen, oConvert, rowLoad, fillA, fillR, slB, dk, dks, dkRows, frz, loOf, hiOf, lenOf, rowsOf, nilV, lenV, putAt, views, viewsOk, CK.av, CK.ok, AV.cells, AV.one, Value.oneCell', Value.cells, pureAbs, nrm, nrm.nrmL, hpAt, sh, AV.ren, AV.ren.renL, Blk.ren, fpOf, footO, foot, blkIds, AV.ids, AV.ids.idsL, Op.operands, Call.operands, List.find?_cons, List.find?_nil, Nat.reduceBEq, beq_self_eq_true, List.map_cons, List.map_nil, List.getD_cons_zero, List.getD_cons_succ, List.getD_nil, List.set_cons_zero, List.set_cons_succ, List.length_cons, List.length_nil, List.replicate, List.cons_append, List.nil_append, List.append_nil, List.getElem?_cons_zero, List.getElem?_cons_succ, List.getElem?_toArray, List.getElem?_nil, List.take_zero, List.take_succ_cons, List.take_nil, List.drop_zero, List.drop_succ_cons, List.drop_nil, List.headD_cons, List.tail_cons, List.flatten_cons, List.flatten_nil, List.flatMap_cons, List.flatMap_nil, List.toList_toArray, Array.toList_append, Option.bind_some, Option.map_some, Option.map_none, Option.isSome_some, List.all_nil, List.all_cons, Bool.and_self, Bool.and_true, Bool.true_and, true_and, and_true, ↓reduceIte, List.size_toArray, Bool.false_eq_true, Bool.true_eq_false, false_implies, true_implies, Bool.not_true, Bool.not_false, and_self, implies_true, decide_true, decide_false, Nat.reduceAdd, Nat.reduceMul, Nat.reduceLT, Nat.reduceSub, Nat.reduceLeDiff, Nat.reduceEqDiff, eq_self, ne_eq, not_false_eq_true, false_and, and_false, reduceCtorEq, List.filter_nil, List.filter_cons, List.isEmpty_nil, List.isEmpty_cons, bne_self_eq_false, Nat.reduceBneDiff, Nat.lt_add_one, Nat.zero_lt_succ, List.append_assoc, Nat.zero_le, and_self_iff, Int.reduceToNat, List.any_nil, List.any_cons, List.filterMap_nil, List.filterMap_cons, List.contains_nil, List.contains_cons, Bool.or_false, Bool.false_or, Bool.or_true, Bool.true_or, Bool.false_and, Bool.and_false, decide_eq_true_eq, decide_eq_false_iff_not, beq_iff_eq, Int.toNat_natCast, hlt, loopK_normal, loopK_exit, loopK_ret, doneL_ret, he', hx, cellsN, blksN, kRows_len, hRows_len, ho, h0', h1', hrowK, hrowH, kRows_app, Bool.false_eq_true, ↓reduceIte]
          · refine ⟨by omega, by omega, by omega, by omega, by omega, ?_, by kernel_rfl, ?_⟩
            · first | trivial | (simp; done) | (refine ⟨?_, ?_, ?_⟩ <;> first | omega | exact kRows_w _ | (simp; done) | (simp; omega))
            · refine ⟨_, rfl, ?_, rfl⟩
              first | rfl | simp [packA, nrm, nrm.nrmL, hRows_tail, kRows_tail]
          · refine ⟨by omega, by omega, by omega, ?_, by kernel_rfl, ?_⟩
            · first | trivial | (simp; done) | (refine ⟨?_, ?_, ?_⟩ <;> first | omega | exact kRows_w _ | (simp; done) | (simp; omega))
            · refine ⟨_, rfl, ?_, rfl⟩
              first | rfl | simp [packA, nrm, nrm.nrmL, hRows_tail, kRows_tail]
          · refine ⟨by omega, by omega, ?_, ?_⟩
            · first | trivial | (simp; done) | (refine ⟨?_, ?_, ?_⟩ <;> first | omega | exact kRows_w _ | (simp; done) | (simp; omega))
            · refine ⟨_, rfl, ?_, rfl⟩
              first | rfl | simp [packA, nrm, nrm.nrmL, hRows_tail, kRows_tail]
          · refine ⟨by omega, ?_⟩
            refine ⟨_, rfl, ?_, rfl⟩
            first | rfl | simp [packA, nrm, nrm.nrmL, hRows_tail, kRows_tail]
        · have hfull := j4 rfl
          dsimp only at hfull
          have ht : (hRows mh).take 5 = hRows mh := List.take_of_length_le (by rw [hRows_len]; omega)
          have hfull' : (5 = mh.length) = True := eq_true hfull.symm
          have hks : NS.ks (⟨.os, mk, mh, q⟩ : NS) = mk := rfl
          have hhs : NS.hs (⟨.os, mk, mh, q⟩ : NS) = (mh.drop 1) := rfl
          have hrowK : kRows mk ++ [[.v (.int .i64 (pickV xs (q + e + 1) 6)), .v (.int .i64 (pickV xs (q + e + 1 + 1) 300)), .v (.int .i64 (pickV xs (q + e + 1 + 1 + 1) 9))]] = kRows (mk ++ [⟨(pickV xs (q + e + 1) 6), (pickV xs (q + e + 1 + 1) 300), (pickV xs (q + e + 1 + 1 + 1) 9)⟩]) := by rw [← kRows_app]; rfl
          have hrowH : hRows (mh.drop 1) ++ [[.v (.int .i64 (pickV xs (q + e + 1) 6)), .l 1 []], [.v (.int .i64 65536), .l 1 []]] = hRows ((mh.drop 1) ++ [⟨(pickV xs (q + e + 1) 6), []⟩, ⟨65536, []⟩]) := by rw [← hRows_app]; rfl
          have hdum : ((7 : Int) = 11) = False := eq_false (by omega)
          have hcs : ((decide (0 < n) && pickV xs q n == n - 1) = true ∧ (pickV xs (q + e) 3 = 0) = True ∧ ((7 : Int) = 11) = False ∧ finS xs (⟨.os, mk, mh, q⟩ : NS) n = ⟨3, 2, mk ++ [⟨(pickV xs (q + e + 1) 6), (pickV xs (q + e + 1 + 1) 300), (pickV xs (q + e + 1 + 1 + 1) 9)⟩], (mh.drop 1), q + e + 1 + 1 + 1 + 1⟩) ∨ ((decide (0 < n) && pickV xs q n == n - 1) = true ∧ (pickV xs (q + e) 3 = 0) = False ∧ (pickV xs (q + e) 3 = 1) = True ∧ finS xs (⟨.os, mk, mh, q⟩ : NS) n = ⟨3, 2, mk, (mh.drop 1) ++ [⟨(pickV xs (q + e + 1) 6), []⟩, ⟨65536, []⟩], q + e + 1 + 1⟩) ∨ ((decide (0 < n) && pickV xs q n == n - 1) = true ∧ (pickV xs (q + e) 3 = 0) = False ∧ (pickV xs (q + e) 3 = 1) = False ∧ finS xs (⟨.os, mk, mh, q⟩ : NS) n = ⟨3, 2, mk ++ mk, (mh.drop 1), q + e + 1⟩) ∨ ((decide (0 < n) && pickV xs q n == n - 1) = false ∧ ((7 : Int) = 11) = False ∧ ((7 : Int) = 11) = False ∧ finS xs (⟨.os, mk, mh, q⟩ : NS) n = ⟨3, 2, mk, (mh.drop 1), q + e⟩) := by
            by_cases ho : (decide (0 < n) && pickV xs q n == n - 1) = true
            · by_cases h0 : (pickV xs (q + e) 3 = 0)
              · exact .inl ⟨ho, eq_true h0, hdum, by rw [finS, ← he, if_pos ho, if_pos h0]; rfl⟩
              · by_cases h1 : (pickV xs (q + e) 3 = 1)
                · exact .inr (.inl ⟨ho, eq_false h0, eq_true h1, by rw [finS, ← he, if_pos ho, if_neg h0, if_pos h1]; rfl⟩)
                · exact .inr (.inr (.inl ⟨ho, eq_false h0, eq_false h1, by rw [finS, ← he, if_pos ho, if_neg h0, if_neg h1]; rfl⟩))
            · exact .inr (.inr (.inr ⟨Bool.eq_false_iff.2 ho, hdum, hdum, by rw [finS, ← he, if_neg ho]; rfl⟩))
          rcases hcs with ⟨ho, h0', h1', hF⟩ | ⟨ho, h0', h1', hF⟩ | ⟨ho, h0', h1', hF⟩ | ⟨ho, h0', h1', hF⟩ <;> rw [hF] <;> simp (maxSteps := 3000000) only [Try.f41, nears, g_pick, g_odd, g_bytes, g_query, g_sendM, g_hearM, bytesOf_rows, tY2, tY3, tY4, tY5, tY9, tY12, tY21, tY22, tY23, tY24, tY25, tY26, tY39, tY40, tY42, tY43, tY46, tY52, tY53, tY54, tY55, tY64, tY73, tY74, tY95, tY96, tY100, tY102, tY113, tY122, Try.underlying2, Try.underlying3, Try.underlying4, Try.underlying5, Try.underlying9, Try.underlying12, Try.underlying21, Try.underlying22, Try.underlying23, Try.underlying24, Try.underlying25, Try.underlying26, Try.underlying39, Try.underlying40, Try.underlying42, Try.underlying43, Try.underlying46, Try.underlying52, Try.underlying53, Try.underlying54, Try.underlying55, Try.underlying64, Try.underlying73, Try.underlying74, Try.underlying95, Try.underlying96, Try.underlying100, Try.underlying102, Try.underlying113, Try.underlying122, e_skip, e_label, e_ret, e_exit, e_seq, e_cond, e_block, e_region, seqK_normal, seqK_ret, seqK_exit, blkK_normal, blkK_ret, blkK_exit, condK_some, regK_true, regK_false, e_nil, e_cons, gateK_go, gateK_skip, gateK_ask, pickK_some, exK_some, x_pick, x_move, x_assign, x_alloc, x_box, x_build, x_buildSlice, x_load, x_store, x_binOp, x_unOp, x_convert, x_makeSlice, x_slice, x_fieldAddr, x_field, x_indexAddr, x_extract, x_nilCheck, x_call, x_len, x_append, x_min, oMin, x_copy, oCopy, eqAVs, callK_some, done_ret, done_normal, doneO_ret, doneO_normal, endsO_one, endsO_nil, endsO_more, ownAbs, frzAbs, leafs, leafs.leafsL, uniq, idxOf, bk, zipB, Blk.liveB, gate_none, gate_some, gateS_none, gateS_some, gateV_bool, gateV_undef, boolOf, evA, putT, refn, fpD, oBin, oUn, upsl, upl, up, ups, lk, dstsOf, resL, resA, packA, oLoadQ, oLoadKid, oStoreQ, oStoreTree, oBuildSliceQ, oBuildTree, oAppendQ, oAppendTree, isTr, isTrP, tkd, tkds, tkRows, ownOf, nodupB, deadL, treeOf, kidAbs, kidBlk, kidRows, TK.isCell, D.toL, oLoad, oStore, oAlloc, oBox, oBuild, oBuildSlice, oMake, oAppend, oIndexAddr, oFieldAddr, oField, oExtract, oNil, oSlice, oLen, oConvert, rowLoad, fillA, fillR, slB, dk, dks, dkRows, frz, loOf, hiOf, lenOf, rowsOf, nilV, lenV, putAt, views, viewsOk, CK.av, CK.ok, AV.cells, AV.one, Value.oneCell', Value.cells, pureAbs, nrm, nrm.nrmL, hpAt, sh, AV.ren, AV.ren.renL, Blk.ren, fpOf, footO, foot, blkIds, AV.ids, AV.ids.idsL, Op.operands, Call.operands, List.find?_cons, List.find?_nil, Nat.reduceBEq, beq_self_eq_true, List.map_cons, List.map_nil, List.getD_cons_zero, List.getD_cons_succ, List.getD_nil, List.set_cons_zero, List.set_cons_succ, List.length_cons, List.length_nil, List.replicate, List.cons_append, List.nil_append, List.append_nil, List.getElem?_cons_zero, List.getElem?_cons_succ, List.getElem?_toArray, List.getElem?_nil, List.take_zero, List.take_succ_cons, List.take_nil, List.drop_zero, List.drop_succ_cons, List.drop_nil, List.headD_cons, List.tail_cons, List.flatten_cons, List.flatten_nil, List.flatMap_cons, List.flatMap_nil, List.toList_toArray, Array.toList_append, Option.bind_some, Option.map_some, Option.map_none, Option.isSome_some, List.all_nil, List.all_cons, Bool.and_self, Bool.and_true, Bool.true_and, true_and, and_true, ↓reduceIte, List.size_toArray, Bool.false_eq_true, Bool.true_eq_false, false_implies, true_implies, Bool.not_true, Bool.not_false, and_self, implies_true, decide_true, decide_false, Nat.reduceAdd, Nat.reduceMul, Nat.reduceLT, Nat.reduceSub, Nat.reduceLeDiff, Nat.reduceEqDiff, eq_self, ne_eq, not_false_eq_true, false_and, and_false, reduceCtorEq, List.filter_nil, List.filter_cons, List.isEmpty_nil, List.isEmpty_cons, bne_self_eq_false, Nat.reduceBneDiff, Nat.lt_add_one, Nat.zero_lt_succ, List.append_assoc, Nat.zero_le, and_self_iff, Int.reduceToNat, List.any_nil, List.any_cons, List.filterMap_nil, List.filterMap_cons, List.contains_nil, List.contains_cons, Bool.or_false, Bool.false_or, Bool.or_true, Bool.true_or, Bool.false_and, Bool.and_false, decide_eq_true_eq, decide_eq_false_iff_not, beq_iff_eq, Int.toNat_natCast, hlt, loopK_normal, loopK_exit, loopK_ret, doneL_ret, he', hx, cellsN, blksN, kRows_len, hRows_len, ht, hRows_drop, hfull', ho, h0', h1', hrowK, hrowH, kRows_app, Bool.false_eq_true, ↓reduceIte]
          · refine ⟨by omega, by omega, by omega, by omega, by omega, ?_, by kernel_rfl, ?_⟩
            · first | trivial | (simp; done) | (refine ⟨?_, ?_, ?_⟩ <;> first | omega | exact kRows_w _ | (simp; done) | (simp; omega))
            · refine ⟨_, rfl, ?_, rfl⟩
              first | rfl | simp [packA, nrm, nrm.nrmL, hRows_tail, kRows_tail, ht, hRows_drop, hfull']
          · refine ⟨by omega, by omega, by omega, ?_, by kernel_rfl, ?_⟩
            · first | trivial | (simp; done) | (refine ⟨?_, ?_, ?_⟩ <;> first | omega | exact kRows_w _ | (simp; done) | (simp; omega))
            · refine ⟨_, rfl, ?_, rfl⟩
              first | rfl | simp [packA, nrm, nrm.nrmL, hRows_tail, kRows_tail, ht, hRows_drop, hfull']
          · refine ⟨by omega, by omega, ?_, ?_⟩
            · first | trivial | (simp; done) | (refine ⟨?_, ?_, ?_⟩ <;> first | omega | exact kRows_w _ | (simp; done) | (simp; omega))
            · refine ⟨_, rfl, ?_, rfl⟩
              first | rfl | simp [packA, nrm, nrm.nrmL, hRows_tail, kRows_tail, ht, hRows_drop, hfull']
          · refine ⟨by omega, ?_⟩
            refine ⟨_, rfl, ?_, rfl⟩
            first | rfl | simp [packA, nrm, nrm.nrmL, hRows_tail, kRows_tail, ht, hRows_drop, hfull']
        · have hfull := j3 rfl
          dsimp only at hfull
          have ht : (kRows mk).take 5 = kRows mk := List.take_of_length_le (by rw [kRows_len]; omega)
          have hfull' : (5 = mk.length) = True := eq_true hfull.symm
          have hks : NS.ks (⟨.so, mk, mh, q⟩ : NS) = (mk.drop 1) := rfl
          have hhs : NS.hs (⟨.so, mk, mh, q⟩ : NS) = mh := rfl
          have hrowK : kRows (mk.drop 1) ++ [[.v (.int .i64 (pickV xs (q + e + 1) 6)), .v (.int .i64 (pickV xs (q + e + 1 + 1) 300)), .v (.int .i64 (pickV xs (q + e + 1 + 1 + 1) 9))]] = kRows ((mk.drop 1) ++ [⟨(pickV xs (q + e + 1) 6), (pickV xs (q + e + 1 + 1) 300), (pickV xs (q + e + 1 + 1 + 1) 9)⟩]) := by rw [← kRows_app]; rfl
          have hrowH : hRows mh ++ [[.v (.int .i64 (pickV xs (q + e + 1) 6)), .l 1 []], [.v (.int .i64 65536), .l 1 []]] = hRows (mh ++ [⟨(pickV xs (q + e + 1) 6), []⟩, ⟨65536, []⟩]) := by rw [← hRows_app]; rfl
          have hdum : ((7 : Int) = 11) = False := eq_false (by omega)
          have hcs : ((decide (0 < n) && pickV xs q n == n - 1) = true ∧ (pickV xs (q + e) 3 = 0) = True ∧ ((7 : Int) = 11) = False ∧ finS xs (⟨.so, mk, mh, q⟩ : NS) n = ⟨3, 2, (mk.drop 1) ++ [⟨(pickV xs (q + e + 1) 6), (pickV xs (q + e + 1 + 1) 300), (pickV xs (q + e + 1 + 1 + 1) 9)⟩], mh, q + e + 1 + 1 + 1 + 1⟩) ∨ ((decide (0 < n) && pickV xs q n == n - 1) = true ∧ (pickV xs (q + e) 3 = 0) = False ∧ (pickV xs (q + e) 3 = 1) = True ∧ finS xs (⟨.so, mk, mh, q⟩ : NS) n = ⟨3, 2, (mk.drop 1), mh ++ [⟨(pickV xs (q + e + 1) 6), []⟩, ⟨65536, []⟩], q + e + 1 + 1⟩) ∨ ((decide (0 < n) && pickV xs q n == n - 1) = true ∧ (pickV xs (q + e) 3 = 0) = False ∧ (pickV xs (q + e) 3 = 1) = False ∧ finS xs (⟨.so, mk, mh, q⟩ : NS) n = ⟨3, 2, (mk.drop 1) ++ (mk.drop 1), mh, q + e + 1⟩) ∨ ((decide (0 < n) && pickV xs q n == n - 1) = false ∧ ((7 : Int) = 11) = False ∧ ((7 : Int) = 11) = False ∧ finS xs (⟨.so, mk, mh, q⟩ : NS) n = ⟨3, 2, (mk.drop 1), mh, q + e⟩) := by
            by_cases ho : (decide (0 < n) && pickV xs q n == n - 1) = true
            · by_cases h0 : (pickV xs (q + e) 3 = 0)
              · exact .inl ⟨ho, eq_true h0, hdum, by rw [finS, ← he, if_pos ho, if_pos h0]; rfl⟩
              · by_cases h1 : (pickV xs (q + e) 3 = 1)
                · exact .inr (.inl ⟨ho, eq_false h0, eq_true h1, by rw [finS, ← he, if_pos ho, if_neg h0, if_pos h1]; rfl⟩)
                · exact .inr (.inr (.inl ⟨ho, eq_false h0, eq_false h1, by rw [finS, ← he, if_pos ho, if_neg h0, if_neg h1]; rfl⟩))
            · exact .inr (.inr (.inr ⟨Bool.eq_false_iff.2 ho, hdum, hdum, by rw [finS, ← he, if_neg ho]; rfl⟩))
          rcases hcs with ⟨ho, h0', h1', hF⟩ | ⟨ho, h0', h1', hF⟩ | ⟨ho, h0', h1', hF⟩ | ⟨ho, h0', h1', hF⟩ <;> rw [hF] <;> simp (maxSteps := 3000000) only [Try.f41, nears, g_pick, g_odd, g_bytes, g_query, g_sendM, g_hearM, bytesOf_rows, tY2, tY3, tY4, tY5, tY9, tY12, tY21, tY22, tY23, tY24, tY25, tY26, tY39, tY40, tY42, tY43, tY46, tY52, tY53, tY54, tY55, tY64, tY73, tY74, tY95, tY96, tY100, tY102, tY113, tY122, Try.underlying2, Try.underlying3, Try.underlying4, Try.underlying5, Try.underlying9, Try.underlying12, Try.underlying21, Try.underlying22, Try.underlying23, Try.underlying24, Try.underlying25, Try.underlying26, Try.underlying39, Try.underlying40, Try.underlying42, Try.underlying43, Try.underlying46, Try.underlying52, Try.underlying53, Try.underlying54, Try.underlying55, Try.underlying64, Try.underlying73, Try.underlying74, Try.underlying95, Try.underlying96, Try.underlying100, Try.underlying102, Try.underlying113, Try.underlying122, e_skip, e_label, e_ret, e_exit, e_seq, e_cond, e_block, e_region, seqK_normal, seqK_ret, seqK_exit, blkK_normal, blkK_ret, blkK_exit, condK_some, regK_true, regK_false, e_nil, e_cons, gateK_go, gateK_skip, gateK_ask, pickK_some, exK_some, x_pick, x_move, x_assign, x_alloc, x_box, x_build, x_buildSlice, x_load, x_store, x_binOp, x_unOp, x_convert, x_makeSlice, x_slice, x_fieldAddr, x_field, x_indexAddr, x_extract, x_nilCheck, x_call, x_len, x_append, x_min, oMin, x_copy, oCopy, eqAVs, callK_some, done_ret, done_normal, doneO_ret, doneO_normal, endsO_one, endsO_nil, endsO_more, ownAbs, frzAbs, leafs, leafs.leafsL, uniq, idxOf, bk, zipB, Blk.liveB, gate_none, gate_some, gateS_none, gateS_some, gateV_bool, gateV_undef, boolOf, evA, putT, refn, fpD, oBin, oUn, upsl, upl, up, ups, lk, dstsOf, resL, resA, packA, oLoadQ, oLoadKid, oStoreQ, oStoreTree, oBuildSliceQ, oBuildTree, oAppendQ, oAppendTree, isTr, isTrP, tkd, tkds, tkRows, ownOf, nodupB, deadL, treeOf, kidAbs, kidBlk, kidRows, TK.isCell, D.toL, oLoad, oStore, oAlloc, oBox, oBuild, oBuildSlice, oMake, oAppend, oIndexAddr, oFieldAddr, oField, oExtract, oNil, oSlice, oLen, oConvert, rowLoad, fillA, fillR, slB, dk, dks, dkRows, frz, loOf, hiOf, lenOf, rowsOf, nilV, lenV, putAt, views, viewsOk, CK.av, CK.ok, AV.cells, AV.one, Value.oneCell', Value.cells, pureAbs, nrm, nrm.nrmL, hpAt, sh, AV.ren, AV.ren.renL, Blk.ren, fpOf, footO, foot, blkIds, AV.ids, AV.ids.idsL, Op.operands, Call.operands, List.find?_cons, List.find?_nil, Nat.reduceBEq, beq_self_eq_true, List.map_cons, List.map_nil, List.getD_cons_zero, List.getD_cons_succ, List.getD_nil, List.set_cons_zero, List.set_cons_succ, List.length_cons, List.length_nil, List.replicate, List.cons_append, List.nil_append, List.append_nil, List.getElem?_cons_zero, List.getElem?_cons_succ, List.getElem?_toArray, List.getElem?_nil, List.take_zero, List.take_succ_cons, List.take_nil, List.drop_zero, List.drop_succ_cons, List.drop_nil, List.headD_cons, List.tail_cons, List.flatten_cons, List.flatten_nil, List.flatMap_cons, List.flatMap_nil, List.toList_toArray, Array.toList_append, Option.bind_some, Option.map_some, Option.map_none, Option.isSome_some, List.all_nil, List.all_cons, Bool.and_self, Bool.and_true, Bool.true_and, true_and, and_true, ↓reduceIte, List.size_toArray, Bool.false_eq_true, Bool.true_eq_false, false_implies, true_implies, Bool.not_true, Bool.not_false, and_self, implies_true, decide_true, decide_false, Nat.reduceAdd, Nat.reduceMul, Nat.reduceLT, Nat.reduceSub, Nat.reduceLeDiff, Nat.reduceEqDiff, eq_self, ne_eq, not_false_eq_true, false_and, and_false, reduceCtorEq, List.filter_nil, List.filter_cons, List.isEmpty_nil, List.isEmpty_cons, bne_self_eq_false, Nat.reduceBneDiff, Nat.lt_add_one, Nat.zero_lt_succ, List.append_assoc, Nat.zero_le, and_self_iff, Int.reduceToNat, List.any_nil, List.any_cons, List.filterMap_nil, List.filterMap_cons, List.contains_nil, List.contains_cons, Bool.or_false, Bool.false_or, Bool.or_true, Bool.true_or, Bool.false_and, Bool.and_false, decide_eq_true_eq, decide_eq_false_iff_not, beq_iff_eq, Int.toNat_natCast, hlt, loopK_normal, loopK_exit, loopK_ret, doneL_ret, he', hx, cellsN, blksN, kRows_len, hRows_len, ht, kRows_drop, hfull', ho, h0', h1', hrowK, hrowH, kRows_app, Bool.false_eq_true, ↓reduceIte]
          · refine ⟨by omega, by omega, by omega, by omega, by omega, ?_, by kernel_rfl, ?_⟩
            · first | trivial | (simp; done) | (refine ⟨?_, ?_, ?_⟩ <;> first | omega | exact kRows_w _ | (simp; done) | (simp; omega))
            · refine ⟨_, rfl, ?_, rfl⟩
              first | rfl | simp [packA, nrm, nrm.nrmL, hRows_tail, kRows_tail, ht, kRows_drop, hfull']
          · refine ⟨by omega, by omega, by omega, ?_, by kernel_rfl, ?_⟩
            · first | trivial | (simp; done) | (refine ⟨?_, ?_, ?_⟩ <;> first | omega | exact kRows_w _ | (simp; done) | (simp; omega))
            · refine ⟨_, rfl, ?_, rfl⟩
              first | rfl | simp [packA, nrm, nrm.nrmL, hRows_tail, kRows_tail, ht, kRows_drop, hfull']
          · refine ⟨by omega, by omega, ?_, ?_⟩
            · first | trivial | (simp; done) | (refine ⟨?_, ?_, ?_⟩ <;> first | omega | exact kRows_w _ | (simp; done) | (simp; omega))
            · refine ⟨_, rfl, ?_, rfl⟩
              first | rfl | simp [packA, nrm, nrm.nrmL, hRows_tail, kRows_tail, ht, kRows_drop, hfull']
          · refine ⟨by omega, ?_⟩
            refine ⟨_, rfl, ?_, rfl⟩
            first | rfl | simp [packA, nrm, nrm.nrmL, hRows_tail, kRows_tail, ht, kRows_drop, hfull']
  · cases hg
end Go.Proofs.Ytfdgdffljaccdaa
