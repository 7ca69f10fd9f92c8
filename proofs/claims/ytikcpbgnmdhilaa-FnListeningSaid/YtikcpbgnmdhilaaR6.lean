import Derived.Test.YtikcpbgnmdhilaaR5
import Derived.ChangeArms
import Derived.OpenShut
namespace Go.Proofs.Ytikcpbgnmdhilaa
open Go.RowKit
def DoneD (P : Program) (fn : Func) (r : AV) : Post := fun e tm hp _ => match e with
  | .normal | .ret => ∃ xs, resL P hp tm fn.results.toList = some xs ∧ packA (xs.map (nrm (lk hp))) = r
  | _ => False
theorem doneD_ret (P : Program) (fn : Func) (r : AV) (tm : List AV) (hp : HP) (n : Nat) : DoneD P fn r .ret tm hp n = ∃ xs, resL P hp tm fn.results.toList = some xs ∧ packA (xs.map (nrm (lk hp))) = r := rfl
theorem doneD_normal (P : Program) (fn : Func) (r : AV) (tm : List AV) (hp : HP) (n : Nat) : DoneD P fn r .normal tm hp n = ∃ xs, resL P hp tm fn.results.toList = some xs ∧ packA (xs.map (nrm (lk hp))) = r := rfl
section
variable {P : Program} {w : World} {Z : Nat → Prop} {L : Nat → Blk} {s : Nat → Value} {F : Nat → Prop} {W0 : Ent}
theorem HR.forget (h : HR F W0 w L s Z) (s' : Nat → Value) : HR F W0 w (fun _ => .none) s' Z :=
  ⟨fun _ => trivial, fun _ _ _ h1 => h1.elim, fun _ _ h1 => h1.elim, fun _ _ h1 => h1.elim, h.zin, h.kept, h.zsrc, h.zhas⟩
theorem packA_ok {xs : List AV} {v : Value} (h : HR F W0 w L s Z) (hv : AVR w Z L s (packA xs) v) (hg : ∀ x ∈ xs, ∀ r, (.own r ∈ leafs x ∨ ∃ lo hi, .sub r lo hi ∈ leafs x) → slB (L r) = none) :
    AVR w Z (fun _ => .none) (fun _ => nilS) (packA (xs.map (nrm L))) v := by
  have many : ∀ ys : List AV, (∀ x ∈ ys, ∀ r, (.own r ∈ leafs x ∨ ∃ lo hi, .sub r lo hi ∈ leafs x) → slB (L r) = none) → AVR w Z L s (.tup ys) v → AVR w Z (fun _ => .none) (fun _ => nilS) (.tup (ys.map (nrm L))) v := fun ys hg hv => by
    cases hv with
    | tup _ vs hl hvs =>
      refine .tup _ vs (by simp [hl]) fun i a b ha hb => ?_
      rw [List.getElem?_map] at ha
      cases hc : ys[i]? with
      | none => simp [hc] at ha
      | some c =>
        simp [hc] at ha; subst ha
        exact nrm_still h (hvs i c b hc hb) (hg c (List.mem_of_getElem? hc))
  match xs, hv, hg with
  | [], hv, hg => exact many [] hg hv
  | [x], hv, hg => exact nrm_still h hv (hg x (by simp))
  | x :: y :: xs, hv, hg => exact many (x :: y :: xs) hg hv
def dataA (L : Nat → Blk) : AV → AV
  | .tup xs => .tup (xs.map (nrm L))
  | r => nrm L r
def tops : AV → List AV
  | .tup xs => xs
  | r => [r]
def dataOf (g : PC) : PC := fun args => match g args with
  | some (c, r, bs) => some (c, dataA (lk (hpAt 0 bs)) r, [])
  | none => none
theorem OwnOk.toData {f : FuncId} {g : PC} (C : OwnOk P f (ocOf g)) : OwnOk P f (ocOf (dataOf g)) := by
  refine ⟨C.there, fun w F Z0 s0 args vs B0 cnd r B1 bs hH hargs hlive hg hc => ?_⟩
  unfold ocOf dataOf at hg
  split at hg
  · split at hg
    · rename_i c1 r1 bs1 hg1
      cases hg
      split at hg1
      · rename_i c2 r2 bs2 hg2
        cases hg1
        obtain ⟨-, hcall⟩ := C.does w F Z0 s0 args vs [] cnd r2 [] bs2 hH hargs hlive (by simp only [ocOf, hg2]) hc
        have hlk : lk (hpAt 0 ([] : List Blk)) = fun _ => .none := by funext k; rfl
        have hone : ∀ x, (nrm (lk (hpAt 0 bs2)) x).ids = [] := fun x => nrm_noids _ _ x (Nat.le_refl _)
        have hids : (dataA (lk (hpAt 0 bs2)) r2).ids = [] := by
          unfold dataA
          split
          · rename_i xs
            simp only [AV.ids]
            rw [List.eq_nil_iff_forall_not_mem]
            intro k hk
            obtain ⟨x, hx, hk⟩ := (memL _ _).1 hk
            obtain ⟨y, _, rfl⟩ := List.mem_map.1 hx
            rw [hone] at hk
            cases hk
          · exact hone _
        refine ⟨⟨trivial, by simp, by rw [hids]; simp⟩, hcall.mono ?_⟩
        rintro e w' ⟨v, s, Z, rfl, k1, _, k2⟩
        rw [List.nil_append] at k1 k2
        obtain ⟨xs, hxs⟩ : ∃ xs, xs = tops r2 := ⟨_, rfl⟩
        obtain ⟨Z1, H1, E1, hF⟩ := k1.frz (L0 := lk (hpAt 0 bs2)) (leafs.leafsL xs) (fun r => .inl rfl)
        refine ⟨v, s0, Z1, rfl, ?_, fun i _ => rfl, ?_⟩
        · show HR F ⟨w, Z0⟩ w' (lk (hpAt 0 ([] : List Blk))) s0 Z1
          rw [hlk]; exact H1.forget _
        · show AVR w' Z1 (lk (hpAt 0 ([] : List Blk))) s0 _ v
          rw [hlk]
          have hgone : ∀ x ∈ xs, ∀ r, (.own r ∈ leafs x ∨ ∃ lo hi, .sub r lo hi ∈ leafs x) → slB (ups (lk (hpAt 0 bs2)) (frz (lk (hpAt 0 bs2)) (leafs.leafsL xs)) r) = none := fun x hx r hr => frz_gone (by
            rw [leafsL_map]
            rcases hr with hr | ⟨lo, hi, hr⟩
            · exact .inl (List.mem_flatMap.2 ⟨x, hx, hr⟩)
            · exact .inr ⟨lo, hi, List.mem_flatMap.2 ⟨x, hx, hr⟩⟩)
          have k3 := k2.mono E1
          unfold dataA
          split
          · rename_i ys
            obtain rfl : ys = xs := hxs.symm
            cases k3 with
            | tup _ us hl hus =>
              refine .tup _ us (by simp [hl]) fun i a b ha hb => ?_
              rw [List.getElem?_map] at ha
              cases hc' : ys[i]? with
              | none => simp [hc'] at ha
              | some y =>
                simp [hc'] at ha; subst ha
                rw [← nrm_froze hF _ y (Nat.le_refl _)]
                exact (nrm_still H1 (hus i y b hc' hb) (hgone y (List.mem_of_getElem? hc'))).noids (nrm_noids _ _ y (Nat.le_refl _))
          · rename_i hnt
            have hxs : xs = [r2] := by
              rw [hxs]
              unfold tops
              split
              · rename_i ys; exact absurd rfl (hnt ys)
              · rfl
            rw [← nrm_froze hF _ r2 (Nat.le_refl _)]
            exact (nrm_still H1 k3 (hgone r2 (by rw [hxs]; simp))).noids (nrm_noids _ _ r2 (Nat.le_refl _))
      · cases hg1
    · cases hg
  · cases hg
theorem OwnOk.of_vcD {G : List (FuncId × Abs)} (hG : ∀ p ∈ G, CallOk P p.1 p.2) (hm : P.follows .mixedOrders = true) {f : FuncId} {fn : Func} {c : Code} {g : PC} (hf : P.funcs[f]? = some fn) (hname : (fn.name == "runtime.NumGoroutine") = false) (hb : fn.body = some c)
    (h : ∀ args cnd r bs, g args = some (cnd, r, bs) → cnd → (bs = [] ∧ r.ids = []) ∧ ∃ args' : List AV, args'.length = args.length ∧ (∀ w Z s vs, ARel w Z (fun _ => .none) s args vs → ARel w Z (fun _ => .none) s args' vs) ∧
      vc P G [] c (DoneD P fn r) (args' ++ List.replicate (fn.ntmps - args'.length) (.v undef)) [] 0) : OwnOk P f (ocOf g) := by
  refine ⟨⟨fn, c, hf, hname, hb⟩, fun w F Z0 s0 args vs B0 cnd r B1 bs hH hargs hlive hg hc => ?_⟩
  unfold ocOf at hg
  split at hg
  · split at hg
    · rename_i c' r' bs' hg'
      cases hg
      obtain ⟨⟨hbs, hids⟩, args', hl, hconv, hvc⟩ := h args cnd r bs hg' hc
      subst hbs
      have hlk : lk (hpAt 0 ([] : List Blk)) = fun _ => .none := by funext k; rfl
      rw [hlk] at hH hargs
      have ha := hconv w Z0 s0 vs hargs
      have hri : r.ids = [] → (likeBs [] [] ∧ (∀ b ∈ ([] : List Blk) ++ [], (b.liveB = true ∨ b = .dead) ∧ blkIds b = []) ∧ (∀ k ∈ r.ids, k < ([] : List Blk).length + ([] : List Blk).length)) := fun e => ⟨trivial, by simp, by rw [e]; simp⟩
      have key : Calls P f vs.toArray w fun e w' => ∃ v s Z, e = .returned v ∧ HR F ⟨w, Z0⟩ w' (fun _ => .none) s Z ∧ AVR w' Z (fun _ => .none) s r v := by
        refine calls_of_wp hf hb ?_
        refine vc_ok (S := []) rfl (F := F) (W0 := ⟨w, Z0⟩) hG hm c _ _ [] 0 _ w _ hvc ⟨s0, Z0, hH, ⟨?_, fun i x y hx hy => ?_, rfl⟩, fun k hk => rfl, fun p hp => by cases hp⟩ fun e tm' hp' n' a' w' hk hB => ?_
        · simp [ha.1]
        · by_cases hi : i < args'.length
          · rw [List.getElem?_append_left hi] at hx
            rw [Array.getElem?_append_left (by simp [ha.1]; exact hi)] at hy
            exact ha.2 i x y hx (by simpa using hy)
          · rw [List.getElem?_append_right (by omega)] at hx
            rw [Array.getElem?_append_right (by simp [ha.1]; omega)] at hy
            rw [List.getElem?_replicate] at hx
            rw [Array.getElem?_replicate] at hy
            split at hx
            · simp at hx; subst hx
              split at hy
              · simp at hy; subst hy; exact .v _
              · cases hy
            · cases hx
        · obtain ⟨s, Z, h1, h2, h3, h4⟩ := hB
          have fin : (∃ xs, resL P hp' tm' fn.results.toList = some xs ∧ packA (xs.map (nrm (lk hp'))) = r) → a'.defers = [] ∧ ∃ v, (results fn a'.tmps).run P w' = .ok v w' ∧ ∃ v' s Z, Ending.returned v = .returned v' ∧ HR F ⟨w, Z0⟩ w' (fun _ => .none) s Z ∧ AVR w' Z (fun _ => .none) s r v' := by
            rintro ⟨xs, hx, rfl⟩
            obtain ⟨v, k1, k2⟩ := res_ok (P := P) h1 h2 hx
            obtain ⟨Z1, H1, E1, hF⟩ := h1.frz (L0 := lk hp') (leafs.leafsL xs) (fun r => .inl rfl)
            refine ⟨h2.defers, v, k1, v, fun _ => nilS, Z1, rfl, H1.forget _, ?_⟩
            have k3 := packA_ok H1 (k2.mono E1) fun x hx r hr => frz_gone (by
              rw [leafsL_map]
              rcases hr with hr | ⟨lo, hi, hr⟩
              · exact .inl (List.mem_flatMap.2 ⟨x, hx, hr⟩)
              · exact .inr ⟨lo, hi, List.mem_flatMap.2 ⟨x, hx, hr⟩⟩)
            rwa [List.map_congr_left fun x _ => nrm_froze hF _ x (Nat.le_refl _)] at k3
          cases e with
          | normal => exact fin hk
          | ret => exact fin hk
          | _ => exact hk.elim
      refine ⟨hri hids, key.mono ?_⟩
      rintro e w' ⟨v, s, Z, rfl, k1, k2⟩
      refine ⟨v, s0, Z, rfl, ?_, fun i _ => rfl, ?_⟩
      · show HR F ⟨w, Z0⟩ w' (lk (hpAt 0 ([] : List Blk))) s0 Z
        rw [hlk]; exact k1.forget _
      · show AVR w' Z (lk (hpAt 0 ([] : List Blk))) s0 r v
        rw [hlk]; exact k2.noids hids
    · cases hg
  · cases hg
end
end Go.Proofs.Ytikcpbgnmdhilaa
namespace Go.Proofs.Ytikcpbgnmdhilaa
open Go.RowKit
def DoneL (P : Program) (fn : Func) (r : AV) (B1 : List Blk) : Post := fun e tm hp _ => match e with
  | .normal | .ret => ∃ xs, resL P hp tm fn.results.toList = some xs ∧ packA (xs.map (nrm (lk hp))) = r ∧ (List.range B1.length).map (lk hp) = B1
  | _ => False
theorem doneL_ret (P : Program) (fn : Func) (r : AV) (B1 : List Blk) (tm : List AV) (hp : HP) (n : Nat) : DoneL P fn r B1 .ret tm hp n = ∃ xs, resL P hp tm fn.results.toList = some xs ∧ packA (xs.map (nrm (lk hp))) = r ∧ (List.range B1.length).map (lk hp) = B1 := rfl
theorem doneL_normal (P : Program) (fn : Func) (r : AV) (B1 : List Blk) (tm : List AV) (hp : HP) (n : Nat) : DoneL P fn r B1 .normal tm hp n = ∃ xs, resL P hp tm fn.results.toList = some xs ∧ packA (xs.map (nrm (lk hp))) = r ∧ (List.range B1.length).map (lk hp) = B1 := rfl
section
variable {P : Program} {w : World} {Z : Nat → Prop} {L : Nat → Blk} {s : Nat → Value} {F : Nat → Prop} {W0 : Ent}
theorem HR.only (h : HR F W0 w L s Z) {L' : Nat → Blk} (hh : ∀ r, L' r = .none ∨ (L' r = L r ∧ ∃ T cs, L r = .var T cs ∧ AV.ids.idsL cs = [])) : HR F W0 w L' s Z := by
  have lv : ∀ r, (L' r).live → (L r).live := fun r hr => by
    rcases hh r with e | ⟨e, _⟩
    · rw [e] at hr; exact hr.elim
    · rw [← e]; exact hr
  have lf : ∀ r g, (L' r).live → Fp w (L' r) (s r) g → Fp w (L r) (s r) g := fun r g hr hg => by
    rcases hh r with e | ⟨e, _⟩
    · rw [e] at hr; exact hr.elim
    · rw [← e]; exact hg
  refine ⟨fun r => ?_, fun r r' g l1 l2 g1 g2 => h.sepF r r' g (lv r l1) (lv r' l2) (lf r g l1 g1) (lf r' g l2 g2), fun r g l1 g1 => h.nzF r g (lv r l1) (lf r g l1 g1), fun r g l1 g1 => h.mineF r g (lv r l1) (lf r g l1 g1), h.zin, h.kept, h.zsrc, h.zhas⟩
  rcases hh r with e | ⟨e, T, cs, e2, hi⟩
  · rw [e]; trivial
  · rw [e]
    have := h.blk r
    rw [e2] at this ⊢
    obtain ⟨g, vs, h1, h2, h3, h4⟩ := this
    refine ⟨g, vs, h1, h2, h3, fun i x y hx hy => ⟨(h4 i x y hx hy).1.noids ?_, (h4 i x y hx hy).2⟩⟩
    rw [List.eq_nil_iff_forall_not_mem]
    intro k hk
    have : k ∈ AV.ids.idsL cs := (memL _ _).2 ⟨x, List.mem_of_getElem? hx, hk⟩
    rw [hi] at this
    cases this
theorem OwnOk.of_vcL {G : List (FuncId × Abs)} (hG : ∀ p ∈ G, CallOk P p.1 p.2) (hm : P.follows .mixedOrders = true) {f : FuncId} {fn : Func} {c : Code} {g : OC} (hf : P.funcs[f]? = some fn) (hname : (fn.name == "runtime.NumGoroutine") = false) (hb : fn.body = some c)
    (h : ∀ args B0 cnd r B1 bs, g args B0 = some (cnd, r, B1, bs) → cnd → (∀ b ∈ B0, b.liveB = true) → (likeBs B0 B1 ∧ bs = [] ∧ (∀ b ∈ B1, ∃ T cs, b = .var T cs ∧ AV.ids.idsL cs = []) ∧ r.ids = []) ∧
      ∃ args' : List AV, args'.length = args.length ∧ (∀ w Z s vs, ARel w Z (lk (hpAt 0 B0)) s args vs → ARel w Z (lk (hpAt 0 B0)) s args' vs) ∧
      vc P G (List.range B0.length) c (DoneL P fn r B1) (args' ++ List.replicate (fn.ntmps - args'.length) (.v undef)) (hpAt 0 B0) B0.length) : OwnOk P f g := by
  refine ⟨⟨fn, c, hf, hname, hb⟩, fun w F Z0 s0 args vs B0 cnd r B1 bs hH hargs hlive hg hc => ?_⟩
  obtain ⟨⟨hlike, rfl, hvar, hids⟩, args', hl, hconv, hvc⟩ := h args B0 cnd r B1 bs hg hc hlive
  have hl1 : B1.length = B0.length := (likeBs_at hlike).1.symm
  refine ⟨⟨hlike, fun b hb => ?_, by rw [hids]; simp⟩, calls_of_wp hf hb ?_⟩
  · rw [List.append_nil] at hb
    obtain ⟨T, cs, rfl, hi⟩ := hvar b hb
    exact ⟨.inl rfl, hi⟩
  have ha := hconv w Z0 s0 vs hargs
  have hat : ∀ i, i < B0.length → lk (hpAt 0 B0) i = B0.getD i .none ∧ (B0.getD i .none).liveB = true := fun i hi => by
    refine ⟨by rw [lk_hpAt]; simp, ?_⟩
    simp only [List.getD, List.getElem?_eq_getElem hi, Option.getD_some]
    exact hlive _ (List.getElem_mem hi)
  refine vc_ok (S := (List.range B0.length).map fun i => (i, s0 i)) (by rw [List.map_map]; exact (List.map_id _).symm) (F := F) (W0 := ⟨w, Z0⟩) hG hm c _ _ (hpAt 0 B0) B0.length _ w _ hvc ⟨s0, Z0, hH, ⟨?_, fun i x y hx hy => ?_, rfl⟩, fun k hk => ?_, fun p hp => ?_⟩ fun e tm' hp' n' a' w' hk hB => ?_
  · simp [ha.1]
  · by_cases hi : i < args'.length
    · rw [List.getElem?_append_left hi] at hx
      rw [Array.getElem?_append_left (by simp [ha.1]; exact hi)] at hy
      exact ha.2 i x y hx (by simpa using hy)
    · rw [List.getElem?_append_right (by omega)] at hx
      rw [Array.getElem?_append_right (by simp [ha.1]; omega)] at hy
      rw [List.getElem?_replicate] at hx
      rw [Array.getElem?_replicate] at hy
      split at hx
      · simp at hx; subst hx
        split at hy
        · simp at hy; subst hy; exact .v _
        · cases hy
      · cases hx
  · rw [lk_hpAt]
    simp only [Nat.zero_le, if_true, Nat.sub_zero]
    simp only [List.getD, List.getElem?_eq_none hk, Option.getD_none]
  · obtain ⟨i, hi, rfl⟩ := List.mem_map.1 hp
    have hi : i < B0.length := List.mem_range.1 hi
    obtain ⟨k1, k2⟩ := hat i hi
    dsimp only
    rw [k1]
    exact ⟨(fun e => by rw [e] at k2; cases k2), .inr rfl⟩
  · obtain ⟨s, Z, h1, h2, h3, h4⟩ := hB
    have fin : (∃ xs, resL P hp' tm' fn.results.toList = some xs ∧ packA (xs.map (nrm (lk hp'))) = r ∧ (List.range B1.length).map (lk hp') = B1) → a'.defers = [] ∧ ∃ v, (results fn a'.tmps).run P w' = .ok v w' ∧ ∃ v' s Z, Ending.returned v = .returned v' ∧ HR F ⟨w, Z0⟩ w' (lk (hpAt 0 (B1 ++ []))) s Z ∧ (∀ i, i < B0.length → s i = s0 i) ∧ AVR w' Z (lk (hpAt 0 (B1 ++ []))) s r v' := by
      rintro ⟨xs, hx, rfl, hB1⟩
      obtain ⟨v, k1, k2⟩ := res_ok (P := P) h1 h2 hx
      obtain ⟨Z1, H1, E1, hF⟩ := h1.frz (L0 := lk hp') (leafs.leafsL xs) (fun r => .inl rfl)
      have k3 := packA_ok H1 (k2.mono E1) fun x hx r hr => frz_gone (by
        rw [leafsL_map]
        rcases hr with hr | ⟨lo, hi, hr⟩
        · exact .inl (List.mem_flatMap.2 ⟨x, hx, hr⟩)
        · exact .inr ⟨lo, hi, List.mem_flatMap.2 ⟨x, hx, hr⟩⟩)
      rw [List.map_congr_left fun x _ => nrm_froze hF _ x (Nat.le_refl _)] at k3
      have hlk : ∀ i, i < B1.length → lk hp' i = B1.getD i .none ∧ ∃ T cs, B1.getD i .none = .var T cs ∧ AV.ids.idsL cs = [] := fun i hi => by
        have e1 : (B1[i]? : Option Blk) = some (lk hp' i) := by
          rw [← hB1, List.getElem?_map, List.getElem?_range hi]
          rfl
        have e2 : B1.getD i .none = lk hp' i := by simp [List.getD, e1]
        rw [e2]
        exact ⟨rfl, hvar _ (List.mem_of_getElem? e1)⟩
      refine ⟨h2.defers, v, k1, v, s, Z1, rfl, H1.only fun i => ?_, fun i hi => ?_, k3.noids hids⟩
      · rw [List.append_nil, lk_hpAt]
        simp only [Nat.zero_le, if_true, Nat.sub_zero]
        by_cases hi : i < B1.length
        · right
          obtain ⟨e1, T, cs, e2, e3⟩ := hlk i hi
          have e4 : ups (lk hp') (frz (lk hp') (leafs.leafsL xs)) i = lk hp' i := by
            rcases hF i with e | ⟨sz, rows, e5, _⟩
            · exact e
            · rw [e1, e2] at e5; cases e5
          rw [e4, e1]
          exact ⟨rfl, T, cs, e2, e3⟩
        · left
          simp only [List.getD, List.getElem?_eq_none (Nat.le_of_not_lt hi), Option.getD_none]
      · obtain ⟨q1, q2⟩ := h4 (i, s0 i) (List.mem_map.2 ⟨i, List.mem_range.2 hi, rfl⟩)
        rcases q2 with q2 | q2
        · obtain ⟨e1, T, cs, e2, e3⟩ := hlk i (by omega)
          dsimp only at q2
          rw [e1, e2] at q2
          cases q2
        · exact q2
    cases e with
    | normal => exact fin hk
    | ret => exact fin hk
    | _ => exact hk.elim
end
end Go.Proofs.Ytikcpbgnmdhilaa
namespace Go.Proofs.Ytikcpbgnmdhilaa
open Go.RowKit
inductive KD where
  | int (k : IntKind)
  | bool
  | str
  | sl (row : List KD)
inductive WT : KD → D → Prop
  | int (k : IntKind) (n : Int) (h : (Lit.int k n).wf = true) : WT (.int k) (.v (.int k n))
  | bool (b : Bool) : WT .bool (.v (.bool b))
  | str (x : ByteArray) : WT .str (.v (.string x))
  | sl (row : List KD) (rows : List (List D)) (hn : rows.length ≤ maxLen) (hl : ∀ r ∈ rows, r.length = row.length) (h : ∀ i j k d, row[j]? = some k → rowAt rows i j = some d → WT k d) : WT (.sl row) (.l row.length rows)
section
variable {P : Program} {w : World} {H : Type} {enc : TypeId × Value → H} {spare : Nat → Bool} {held : Bool}
structure Reads (w : World) (ks : List KD) (ds : List D) (cs : List Value) : Prop where
  dl : ds.length = ks.length
  cl : cs.length = ks.length
  wt : ∀ (j : Nat) k d, ks[j]? = some k → ds[j]? = some d → WT k d
  rep : ∀ (j : Nat) d c, ds[j]? = some d → cs[j]? = some c → Rep w (Zold w) d c
theorem Reads.one {k : KD} {d : D} {c : Value} (h : WT k d) (hr : Rep w (Zold w) d c) : Reads w [k] [d] [c] :=
  ⟨rfl, rfl, fun j k' d' h1 h2 => by
    cases j with
    | zero => simp at h1 h2; subst h1; subst h2; exact h
    | succ j => simp at h1, fun j d' c' h1 h2 => by
    cases j with
    | zero => simp at h1 h2; subst h1; subst h2; exact hr
    | succ j => simp at h1⟩
end
end Go.Proofs.Ytikcpbgnmdhilaa
