import Derived.Test.YtnnpijjdjdnffaaR5
import Derived.ChangeArms
namespace Go.Proofs.Ytnnpijjdjdnffaa
open Go.RowKit

/-! A function that answers data: what it made turns no more. -/
def DoneD (P : Program) (fn : Func) (r : AV) : Post := fun e tm hp _ => match e with
  | .normal | .ret => ∃ xs, resL P hp tm fn.results.toList = some xs ∧ packA (xs.map (nrm (lk hp))) = r
  | _ => False
theorem doneD_ret (P : Program) (fn : Func) (r : AV) (tm : List AV) (hp : HP) (n : Nat) : DoneD P fn r .ret tm hp n = ∃ xs, resL P hp tm fn.results.toList = some xs ∧ packA (xs.map (nrm (lk hp))) = r := rfl
theorem doneD_normal (P : Program) (fn : Func) (r : AV) (tm : List AV) (hp : HP) (n : Nat) : DoneD P fn r .normal tm hp n = ∃ xs, resL P hp tm fn.results.toList = some xs ∧ packA (xs.map (nrm (lk hp))) = r := rfl
section
variable {P : Program} {w : World} {Z : Nat → Prop} {L : Nat → Blk} {s : Nat → Value} {F : Nat → Prop} {W0 : Ent}

/-- all blocks are forgotten -/
theorem HR.forget (h : HR F W0 w L s Z) (s' : Nat → Value) : HR F W0 w (fun _ => .none) s' Z :=
  ⟨fun _ => trivial, fun _ _ _ h1 => h1.elim, fun _ _ h1 => h1.elim, fun _ _ h1 => h1.elim, h.zin, h.kept, h.zsrc, h.zhas⟩
theorem packA_ok {xs : List AV} {v : Value} (h : HR F W0 w L s Z) (hv : AVR w Z L s (packA xs) v) (hg : ∀ x ∈ xs, ∀ r, (.own r ∈ leafs x ∨ ∃ lo hi, .sub r lo hi ∈ leafs x) → ∀ e sz rows, L r ≠ .sl e sz rows) :
    AVR w Z (fun _ => .none) (fun _ => nilS) (packA (xs.map (nrm L))) v := by
  have many : ∀ ys : List AV, (∀ x ∈ ys, ∀ r, (.own r ∈ leafs x ∨ ∃ lo hi, .sub r lo hi ∈ leafs x) → ∀ e sz rows, L r ≠ .sl e sz rows) → AVR w Z L s (.tup ys) v → AVR w Z (fun _ => .none) (fun _ => nilS) (.tup (ys.map (nrm L))) v := fun ys hg hv => by
    cases hv with
    | tup _ vs hl hvs =>
      refine .tup _ vs (by simp [hl]) fun i a b ha hb => ?_
      rw [List.getElem?_map] at ha
      cases hc : ys[i]? with
      | none => simp [hc] at ha
      | some c =>
        simp [hc] at ha; subst ha
        exact nrm_still h (hvs i c b hc hb) (hg c (List.mem_of_getElem? hc))
  match xs, hv, hg with
  | [], hv, hg => exact many [] hg hv
  | [x], hv, hg => exact nrm_still h hv (hg x (by simp))
  | x :: y :: xs, hv, hg => exact many (x :: y :: xs) hg hv

theorem OwnOk.of_vcD {G : List (FuncId × Abs)} (hG : ∀ p ∈ G, CallOk P p.1 p.2) (hm : P.follows .mixedOrders = true) {f : FuncId} {fn : Func} {c : Code} {g : PC} (hf : P.funcs[f]? = some fn) (hname : (fn.name == "runtime.NumGoroutine") = false) (hb : fn.body = some c)
    (h : ∀ args cnd r bs, g args = some (cnd, r, bs) → cnd → (bs = [] ∧ r.ids = []) ∧ ∃ args' : List AV, args'.length = args.length ∧ (∀ w Z s vs, ARel w Z (fun _ => .none) s args vs → ARel w Z (fun _ => .none) s args' vs) ∧
      vc P G [] c (DoneD P fn r) (args' ++ List.replicate (fn.ntmps - args'.length) (.v undef)) [] 0) : OwnOk P f (ocOf g) := by
  refine ⟨⟨fn, c, hf, hname, hb⟩, fun w F Z0 s0 args vs B0 cnd r B1 bs hH hargs hlive hg hc => ?_⟩
  unfold ocOf at hg
  split at hg
  · split at hg
    · rename_i c' r' bs' hg'
      cases hg
      obtain ⟨⟨hbs, hids⟩, args', hl, hconv, hvc⟩ := h args cnd r bs hg' hc
      subst hbs
      have hlk : lk (hpAt 0 ([] : List Blk)) = fun _ => .none := by funext k; rfl
      rw [hlk] at hH hargs
      have ha := hconv w Z0 s0 vs hargs
      have hri : r.ids = [] → (likeBs [] [] ∧ (∀ b ∈ ([] : List Blk) ++ [], b.liveB = true ∧ blkIds b = []) ∧ (∀ k ∈ r.ids, k < ([] : List Blk).length + ([] : List Blk).length)) := fun e => ⟨trivial, by simp, by rw [e]; simp⟩
      have key : Calls P f vs.toArray w fun e w' => ∃ v s Z, e = .returned v ∧ HR F ⟨w, Z0⟩ w' (fun _ => .none) s Z ∧ AVR w' Z (fun _ => .none) s r v := by
        refine calls_of_wp hf hb ?_
        refine vc_ok (S := []) rfl (F := F) (W0 := ⟨w, Z0⟩) hG hm c _ _ [] 0 _ w _ hvc ⟨s0, Z0, hH, ⟨?_, fun i x y hx hy => ?_, rfl⟩, fun k hk => rfl, fun p hp => by cases hp⟩ fun e tm' hp' n' a' w' hk hB => ?_
        · simp [ha.1]
        · by_cases hi : i < args'.length
          · rw [List.getElem?_append_left hi] at hx
            rw [Array.getElem?_append_left (by simp [ha.1]; exact hi)] at hy
            exact ha.2 i x y hx (by simpa using hy)
          · rw [List.getElem?_append_right (by omega)] at hx
            rw [Array.getElem?_append_right (by simp [ha.1]; omega)] at hy
            rw [List.getElem?_replicate] at hx
            rw [Array.getElem?_replicate] at hy
            split at hx
            · simp at hx; subst hx
              split at hy
              · simp at hy; subst hy; exact .v _
              · cases hy
            · cases hx
        · obtain ⟨s, Z, h1, h2, h3, h4⟩ := hB
          have fin : (∃ xs, resL P hp' tm' fn.results.toList = some xs ∧ packA (xs.map (nrm (lk hp'))) = r) → a'.defers = [] ∧ ∃ v, (results fn a'.tmps).run P w' = .ok v w' ∧ ∃ v' s Z, Ending.returned v = .returned v' ∧ HR F ⟨w, Z0⟩ w' (fun _ => .none) s Z ∧ AVR w' Z (fun _ => .none) s r v' := by
            rintro ⟨xs, hx, rfl⟩
            obtain ⟨v, k1, k2⟩ := res_ok (P := P) h1 h2 hx
            obtain ⟨Z1, H1, E1, hF⟩ := h1.frz (L0 := lk hp') (leafs.leafsL xs) (fun r => .inl rfl)
            refine ⟨h2.defers, v, k1, v, fun _ => nilS, Z1, rfl, H1.forget _, ?_⟩
            have k3 := packA_ok H1 (k2.mono E1) fun x hx r hr => frz_gone (by
              rw [leafsL_map]
              rcases hr with hr | ⟨lo, hi, hr⟩
              · exact .inl (List.mem_flatMap.2 ⟨x, hx, hr⟩)
              · exact .inr ⟨lo, hi, List.mem_flatMap.2 ⟨x, hx, hr⟩⟩)
            rwa [List.map_congr_left fun x _ => nrm_froze hF _ x (Nat.le_refl _)] at k3
          cases e with
          | normal => exact fin hk
          | ret => exact fin hk
          | _ => exact hk.elim
      refine ⟨hri hids, key.mono ?_⟩
      rintro e w' ⟨v, s, Z, rfl, k1, k2⟩
      refine ⟨v, s0, Z, rfl, ?_, fun i _ => rfl, ?_⟩
      · show HR F ⟨w, Z0⟩ w' (lk (hpAt 0 ([] : List Blk))) s0 Z
        rw [hlk]; exact k1.forget _
      · show AVR w' Z (lk (hpAt 0 ([] : List Blk))) s0 r v
        rw [hlk]; exact k2.noids hids
    · cases hg
  · cases hg
end
end Go.Proofs.Ytnnpijjdjdnffaa
