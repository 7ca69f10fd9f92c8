import Derived.Test.YtkfjaeoehhakpaaIp
import Derived.Test.YtkfjaeoehhakpaaR7
set_option linter.unusedVariables false
set_option linter.unusedSimpArgs false
namespace Go.Proofs.Ytkfjaeoehhakpaa
open Go.RowKit
set_option linter.unusedSimpArgs false
theorem hrV_le (e : Ea) (a : Int) (d : List UInt8) : (hrV e a d).g.length ≤ 32 ∧ (hrV e a d).fr.length ≤ 32 := by
  unfold hrV
  split
  · rename_i ho
    have h := (hr_ok ho).1
    have hc := ea_count h
    obtain ⟨_, c2, _⟩ := eaB_iff.1 h
    omega
  · exact ⟨Nat.zero_le _, Nat.zero_le _⟩
def g_xi3 : PC := fun args => match args with
  | [.agg [.v (.int .i64 n), .v (.int .i64 room), .l _ rg, .l _ rf], .v (.int .i64 a), .l _ rd] => some (((∃ xs, rg = rowsOfBytes xs ∧ xs.length ≤ 9223372036854775807) ∧ ∃ l, rf = erRows l ∧ l.length ≤ 9223372036854775807) ∧ ∃ ds, rd = rowsOfBytes ds, .v (.bool true), [])
  | _ => none
def xiearhear : List (FuncId × Abs) := [(8, pureAbs g_szEa), (10, pureAbs g_toEa), (12, pureAbs g_eqEa), (19, ownAbs g_markEa), (21, pureAbs g_heldEa), (16, pureAbs g_toByteS), (18, pureAbs g_eqByteS), (20, ownAbs g_markByteS), (17, pureAbs g_earHear), (15, pureAbs g_earHear)]
theorem xiearhear_ok : ∀ p ∈ xiearhear, CallOk Try.prog p.1 p.2 := by
  intro p hp
  simp only [xiearhear, List.mem_cons, List.not_mem_nil, or_false] at hp
  rcases hp with rfl | rfl | rfl | rfl | rfl | rfl | rfl | rfl | rfl | rfl
  · exact szEar_ok.call
  · exact toEar_ok.call
  · exact eqEar_ok.call
  · exact markEar_ok.call
  · exact heldEar_ok.call
  · exact toByteS_ok.call
  · exact eqByteS_ok.call
  · exact markByteS_ok.call
  · exact implEarHear_ok.call
  · exact specEarHear_ok.call
set_option maxHeartbeats 8000000 in
set_option maxRecDepth 100000 in
theorem lawExactEarHear_ok : PureOk Try.prog 5 g_xi3 := by
  refine PureOk.of_vc (G := xiearhear) xiearhear_ok mixed Try.func5 (by kernel_rfl) rfl ?_
  intro args cnd r bs hg hc
  unfold g_xi3 at hg
  split at hg
  · rename_i n room sg rg sf rf a sd rd
    cases hg
    obtain ⟨⟨⟨xs, rfl, hd⟩, l, rfl, hl⟩, ds, rfl⟩ := hc
    refine ⟨⟨rfl, by simp, by simp [AV.ids, AV.ids.idsL]⟩, [.agg [.v (.int .i64 n), .v (.int .i64 room), .l 1 (rowsOfBytes xs), .l 2 (erRows l)], .v (.int .i64 a), .l 1 (rowsOfBytes ds)], rfl, fun w vs h => CvL.ok (.cons (.cons (.refl _) (.cons (.refl _) (.cons (.l _ _ _ (rowsOf_w xs)) (.cons (.l _ _ _ (erRows_w l)) .nil)))) (.cons (.refl _) (.cons (.l _ _ _ (rowsOf_w ds)) .nil))) h, ?_⟩
    simp (maxSteps := 3000000) only [Try.f5, xiearhear, g_szEa, g_toEa, g_eqEa, g_markEa, g_heldEa, g_toByteS, g_eqByteS, g_markByteS, g_earHear, bytesOf_rows, rowsOf_len, marks_len, rgsOf_rows, rgRows_len, rgMks_len, rgEqs_refl, ersOf_rows, erRows_len, erMks_len, bne_self_eq_false, beq_self_eq_true, and_self, decide_true, Bool.not_true, Bool.not_false, ↓reduceIte, Bool.false_eq_true, tYs, evL, implies_true, oMin, x_min3, oMin3, x_max, oMax, oCopy, oBin, oUn, oLoadKid, oStoreTree, oField, oExtract, oNil, oSliceQ, oSliceE, x_appendZ, oAppendZ, oSliceEnd, endMode, oLoadRow, takeCells, TS.atRow, TS.ex, treeMode, AV.isOwn, TK.isSl, nilTk, nilsB, oLenQ, oLen, nodupB, treeOf, kidAbs, kidRows, TK.isCell, D.toL, oLoad, oStore, oMake, oIndexAddr, ↓reduceIte, reduceCtorEq, Nat.reduceBEq, Nat.reduceAdd, Nat.reduceMul, Nat.reduceLT, Nat.reduceSub, Nat.reduceLeDiff, Nat.reduceEqDiff, Nat.reduceBneDiff, Int.reduceToNat, decide_eq_true_eq, decide_eq_false_iff_not, beq_iff_eq, Int.toNat_natCast]
    by_cases hdx : (ds.length : Int) > 1048576
    · rw [if_pos hdx]
      exact ⟨_, [], rfl, ⟨⟨⟨rfl, rfl, rfl⟩, trivial⟩, trivial, by simp [rn, hpAt]⟩⟩
    · rw [if_neg hdx]
      refine ⟨⟨by omega, ⟨xs, rfl, hd⟩, l, rfl, hl⟩, ?_⟩
      have hb := szSg_bd (n := xs.length) (m := l.length)
      by_cases hz : szSg 1048576 xs.length l.length < 0
      · rw [if_pos hz]
        exact ⟨_, [], rfl, ⟨⟨⟨rfl, rfl, rfl⟩, trivial⟩, trivial, by simp [rn, hpAt]⟩⟩
      · rw [if_neg hz]
        have hx := hb.2.2 (by omega)
        clear hb hz
        obtain ⟨hv1, hv2⟩ := hrV_le ⟨n, room, xs, l⟩ a ds
        repeat' first
          | (refine And.intro ?_ ?_; focus (exact ⟨⟨⟨_, rfl, by omega⟩, _, rfl, by omega⟩, _, rfl, by omega⟩))
          | (refine And.intro ?_ ?_; focus (exact ⟨by omega, _, rfl, by omega⟩))
          | (refine And.intro ?_ ?_; focus (exact ⟨⟨_, rfl, by omega⟩, by omega, by omega⟩))
          | (refine And.intro ?_ ?_; focus (exact ⟨by omega, ⟨_, rfl, by omega⟩, by omega, by omega⟩))
          | (refine And.intro ?_ ?_; focus (exact ⟨⟨by omega, rfl⟩, ⟨_, rfl, by omega⟩, by omega, by omega⟩))
          | (refine And.intro ?_ ?_; focus (exact ⟨⟨_, rfl, by omega⟩, _, rfl, by omega⟩))
          | (refine And.intro ?_ ?_; focus (exact ⟨⟨_, rfl, rfl, by omega⟩, _, rfl, rfl, by omega⟩))
          | (refine And.intro ?_ ?_; focus (exact ⟨⟨_, rfl, by omega⟩, ⟨_, rfl, by omega⟩, by omega, by omega⟩))
          | (refine And.intro ?_ ?_; focus (exact ⟨_, rfl, by omega⟩))
          | (refine And.intro ?_ ?_; focus (exact ⟨⟨_, rfl⟩, by omega, by omega, by omega⟩))
          | (refine And.intro ?_ ?_; focus (exact ⟨⟨_, rfl, by omega⟩, ⟨by omega, rfl⟩, by omega, by omega⟩))
          | (refine And.intro ?_ ?_; focus (exact ⟨by omega, by omega, by omega, rfl⟩))
          | (refine And.intro ?_ ?_; focus (exact ⟨by omega, by omega, by omega⟩))
          | (refine And.intro ?_ ?_; focus (exact ⟨⟨_, rfl, by omega⟩, by omega, by omega, by omega⟩))
          | (refine And.intro ?_ ?_; focus (kernel_rfl))
          | rw [if_neg (by omega)]
          | rw [if_pos (by omega)]
        exact ⟨_, [], rfl, ⟨⟨⟨rfl, rfl, rfl⟩, trivial⟩, trivial, by simp [rn, hpAt]⟩⟩
  · cases hg
def erKinds : List KD := [.int .i64, .int .u8]
def earKinds : List KD := [.int .i64, .int .i64, .sl [.int .u8], .sl erKinds]
theorem ear_in {w : World} {ds : List D} {cs : Array Value} (H : Reads w earKinds ds cs.toList) : ∃ (n room : Int) (xs : List UInt8) (l : List Er), AVR w (Zold w) (fun _ => .none) (fun _ => nilS) (.agg [.v (.int .i64 n), .v (.int .i64 room), .l 1 (rowsOfBytes xs), .l 2 (erRows l)]) (.agg cs) ∧ xs.length ≤ 9223372036854775807 ∧ l.length ≤ 9223372036854775807 := by
  obtain ⟨h1, h2, h3, h4⟩ := H
  obtain ⟨cs⟩ := cs
  match ds, h1, cs, h2 with
  | [x0, x1, x2, x3], _, [c0, c1, c2, c3], _ =>
    obtain ⟨n, rfl, _⟩ := wt_int (h3 0 _ x0 rfl rfl)
    obtain ⟨room, rfl, _⟩ := wt_int (h3 1 _ x1 rfl rfl)
    obtain ⟨xs, rfl, hx⟩ := wt_bytes (h3 2 _ x2 rfl rfl)
    obtain ⟨rows, rfl, hn, hr⟩ := wt_row (h3 3 _ x3 rfl rfl)
    obtain ⟨l, h5, _⟩ := map_of erRow (fun _ => True) rows fun r hm => by
      obtain ⟨g1, g2⟩ := hr r hm
      match r, g1 with
      | [y0, y1], _ =>
        obtain ⟨u, rfl, _⟩ := wt_int (g2 0 _ y0 rfl rfl)
        obtain ⟨v, rfl, hw⟩ := wt_int (g2 1 _ y1 rfl rfl)
        have hb : 0 ≤ v ∧ v ≤ 255 := by simpa [Lit.wf, IntKind.min, IntKind.max, IntKind.signed, IntKind.bits] using hw
        exact ⟨⟨u, toU8 v⟩, by rw [erRow, toU8_val' hb.1 hb.2], trivial⟩
    subst h5
    rw [List.length_map] at hn
    exact ⟨n, room, xs, l, avr_agg (xs := [c0, c1, c2, c3]) (arel_cons (avr_rep (h4 0 _ c0 rfl rfl)) (arel_cons (avr_rep (h4 1 _ c1 rfl rfl)) (arel_cons (.l _ _ _ (h4 2 _ c2 rfl rfl)) (arel_cons (.l _ _ _ (h4 3 _ c3 rfl rfl)) arel_nil)))), Nat.le_trans hx (by decide), Nat.le_trans hn (by decide)⟩
theorem walk_ExactEarOk (cs : Array Value) (ds : List D) (w : World) (H : Reads w earKinds ds cs.toList) :
    Calls Try.prog 3 #[.agg cs] w fun e w' => e = .returned (.bool true) ∧ Below w.heap.size w w' := by
  obtain ⟨n, room, xs, l, hr, hx, hl⟩ := ear_in H
  exact lawExactEarOk_ok.walk (vs := [_]) (arel_cons hr arel_nil) rfl ⟨⟨_, rfl, hx⟩, _, rfl, hl⟩
theorem walk_ExactEarFree (cs : Array Value) (ds : List D) (w : World) (H : Reads w earKinds ds cs.toList) :
    Calls Try.prog 4 #[.agg cs] w fun e w' => e = .returned (.bool true) ∧ Below w.heap.size w w' := by
  obtain ⟨n, room, xs, l, hr, hx, hl⟩ := ear_in H
  exact lawExactEarFree_ok.walk (vs := [_]) (arel_cons hr arel_nil) rfl ⟨⟨_, rfl, hx⟩, _, rfl, hl⟩
theorem walk_ExactEarRanges (cs : Array Value) (ds : List D) (w : World) (H : Reads w earKinds ds cs.toList) :
    Calls Try.prog 7 #[.agg cs] w fun e w' => e = .returned (.bool true) ∧ Below w.heap.size w w' := by
  obtain ⟨n, room, xs, l, hr, hx, hl⟩ := ear_in H
  exact lawExactEarRanges_ok.walk (vs := [_]) (arel_cons hr arel_nil) rfl ⟨⟨_, rfl, hx⟩, _, rfl, hl⟩
theorem walk_ExactEarRead (cs : Array Value) (ds : List D) (m : Int) (w : World) (H : Reads w earKinds ds cs.toList) (_ : (Lit.int .i64 m).wf = true) :
    Calls Try.prog 6 #[.agg cs, .int .i64 m] w fun e w' => e = .returned (.bool true) ∧ Below w.heap.size w w' := by
  obtain ⟨n, room, xs, l, hr, hx, hl⟩ := ear_in H
  exact lawExactEarRead_ok.walk (vs := [_, _]) (arel_cons hr (arel_cons (.v _) arel_nil)) rfl ⟨⟨_, rfl, hx⟩, _, rfl, hl⟩
theorem walk_ExactEarHear (cs : Array Value) (ds : List D) (a : Int) (A : Option Addr) (n c : Nat) (ys : List UInt8) (w : World) (H : Reads w earKinds ds cs.toList) (_ : (Lit.int .i64 a).wf = true) (h : Rd w w.heap.size A n (bv ys)) (hc : n ≤ c) :
    Calls Try.prog 5 #[.agg cs, .int .i64 a, .slice A n c] w fun e w' => e = .returned (.bool true) ∧ Below w.heap.size w w' := by
  obtain ⟨n, room, xs, l, hr, hx, hl⟩ := ear_in H
  exact lawExactEarHear_ok.walk (vs := [_, _, _]) (arel_cons hr (arel_cons (.v _) (arel_cons (.l _ _ _ (rep_of_rd h hc)) arel_nil))) rfl ⟨⟨⟨_, rfl, hx⟩, _, rfl, hl⟩, _, rfl⟩
end Go.Proofs.Ytkfjaeoehhakpaa
