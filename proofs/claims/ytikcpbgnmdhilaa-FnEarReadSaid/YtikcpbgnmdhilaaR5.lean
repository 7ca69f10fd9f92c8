import Derived.Test.YtikcpbgnmdhilaaR4
namespace Go.Proofs.Ytikcpbgnmdhilaa
open Go.RowKit
def leafs : AV → List AV
  | .own r => [.own r]
  | .sub r lo hi => [.sub r lo hi]
  | .agg cs => leafsL cs
  | _ => []
where leafsL : List AV → List AV
  | [] => []
  | c :: cs => leafs c ++ leafsL cs
def ocOf (g : PC) : OC := fun args B0 => match B0 with
  | [] => match g args with
    | some (c, r, bs) => some (c, r, [], bs)
    | none => none
  | _ => none
def frzAbs (g : PC) : Abs := fun args L q => match g (args.map (nrm L)) with
  | some (c, r, bs) => if bs.length ≤ 16 then some ⟨c, r.ren (sh q), frz L (leafs.leafsL args) ++ hpAt q bs⟩ else none
  | none => none
section
variable {P : Program} {w : World} {Z : Nat → Prop} {L : Nat → Blk} {s : Nat → Value} {F : Nat → Prop} {W0 : Ent}
theorem leafsL_map : ∀ cs : List AV, leafs.leafsL cs = cs.flatMap leafs
  | [] => rfl
  | c :: cs => by rw [leafs.leafsL, leafsL_map cs]; rfl
theorem leafs_ids {r : Nat} : ∀ (n : Nat) (a : AV), SizeOf.sizeOf a ≤ n → r ∈ AV.ids.idsL (leafs a) → r ∈ a.ids := by
  intro n
  induction n with
  | zero => intro a ha; cases a <;> simp at ha <;> omega
  | succ n ih =>
    intro a ha h
    cases a with
    | own k => simpa [leafs, AV.ids, AV.ids.idsL] using h
    | sub k lo hi => simpa [leafs, AV.ids, AV.ids.idsL] using h
    | agg cs =>
      simp only [leafs, leafsL_map] at h
      obtain ⟨x, hx, hr⟩ := (memL _ _).1 h
      obtain ⟨c, hc, hxc⟩ := List.mem_flatMap.1 hx
      simp only [AV.ids]
      refine (memL _ _).2 ⟨c, hc, ih c ?_ ((memL _ _).2 ⟨x, hxc, hr⟩)⟩
      have := List.sizeOf_lt_of_mem hc
      simp at ha
      omega
    | _ => simp [leafs, AV.ids.idsL] at h
theorem leafsL_ids {r : Nat} {xa : List AV} (h : r ∈ AV.ids.idsL (leafs.leafsL xa)) : r ∈ AV.ids.idsL xa := by
  rw [leafsL_map] at h
  obtain ⟨x, hx, hr⟩ := (memL _ _).1 h
  obtain ⟨c, hc, hxc⟩ := List.mem_flatMap.1 hx
  exact (memL _ _).2 ⟨c, hc, leafs_ids _ c (Nat.le_refl _) ((memL _ _).2 ⟨x, hxc, hr⟩)⟩
theorem slB_cases {B : Blk} {sz : Nat} {rows : List (List D)} (h : slB B = some (sz, rows)) : (∃ e, B = .sl e sz rows) ∨ (∃ e cols, B = .tr .whole e sz cols rows) ∨ ∃ e, B = .off e sz rows := by
  unfold slB at h
  split at h
  · cases h; exact .inl ⟨_, rfl⟩
  · cases h; exact .inr (.inl ⟨_, _, rfl⟩)
  · cases h; exact .inr (.inr ⟨_, rfl⟩)
  · cases h
theorem frz_entry : ∀ {xs : List AV} {p : Nat × Blk}, p ∈ frz L xs → p.1 ∈ AV.ids.idsL xs ∧ ∃ sz rows, slB (L p.1) = some (sz, rows) ∧ p.2 = .still sz rows
  | [], p, h => by simp [frz] at h
  | x :: xs, p, h => by
    have rest : p ∈ frz L xs → p.1 ∈ AV.ids.idsL (x :: xs) ∧ ∃ sz rows, slB (L p.1) = some (sz, rows) ∧ p.2 = .still sz rows := fun h => by
      obtain ⟨h1, h2⟩ := frz_entry h
      exact ⟨by rw [AV.ids.idsL]; exact List.mem_append.2 (.inr h1), h2⟩
    cases x with
    | own r =>
      simp only [frz] at h
      split at h
      · rename_i sz rows hL
        rcases List.mem_cons.1 h with rfl | h
        · exact ⟨by simp [AV.ids.idsL, AV.ids], sz, rows, hL, rfl⟩
        · exact rest h
      · exact rest h
    | sub r lo hi =>
      simp only [frz] at h
      split at h
      · rename_i sz rows hL
        rcases List.mem_cons.1 h with rfl | h
        · exact ⟨by simp [AV.ids.idsL, AV.ids], sz, rows, hL, rfl⟩
        · exact rest h
      · exact rest h
    | _ => exact rest h
theorem frz_has : ∀ {xs : List AV} {r : Nat} {sz : Nat} {rows : List (List D)}, slB (L r) = some (sz, rows) → (.own r ∈ xs ∨ ∃ lo hi, .sub r lo hi ∈ xs) → (r, .still sz rows) ∈ frz L xs
  | [], r, sz, rows, _, h => by simp at h
  | x :: xs, r, sz, rows, hL, h => by
    by_cases hx : .own r ∈ xs ∨ ∃ lo hi, .sub r lo hi ∈ xs
    · have := frz_has hL hx
      cases x with
      | own k => simp only [frz]; split <;> simp [this]
      | sub k lo hi => simp only [frz]; split <;> simp [this]
      | _ => exact this
    · have hx' : x = .own r ∨ ∃ lo hi, x = .sub r lo hi := by
        rcases h with h | ⟨lo, hi, h⟩
        · rcases List.mem_cons.1 h with h | h
          · exact .inl h.symm
          · exact absurd (.inl h) hx
        · rcases List.mem_cons.1 h with h | h
          · exact .inr ⟨lo, hi, h.symm⟩
          · exact absurd (.inr ⟨lo, hi, h⟩) hx
      rcases hx' with rfl | ⟨lo, hi, rfl⟩
      · simp only [frz, hL]; simp
      · simp only [frz, hL]; simp
theorem ups_all {b : Blk} {r : Nat} : ∀ {l : List (Nat × Blk)} {L : Nat → Blk}, (∀ p ∈ l, p.1 = r → p.2 = b) → ((∃ p ∈ l, p.1 = r) ∨ L r = b) → ups L l r = b
  | [], L, _, h => by
    rcases h with ⟨p, hp, _⟩ | h
    · simp at hp
    · exact h
  | p :: l, L, ha, h => by
    simp only [ups]
    refine ups_all (fun p' hp' => ha p' (List.mem_cons_of_mem _ hp')) ?_
    by_cases hl : ∃ p' ∈ l, p'.1 = r
    · exact .inl hl
    · right
      by_cases hp : p.1 = r
      · rw [hp, up_same]; exact ha p (by simp) hp
      · rw [up_ne _ _ (fun e => hp e.symm)]
        rcases h with ⟨p', hp', e⟩ | h
        · rcases List.mem_cons.1 hp' with rfl | hp'
          · exact absurd e hp
          · exact absurd ⟨p', hp', e⟩ hl
        · exact h
theorem frz_gone {xs : List AV} {r : Nat} (h : .own r ∈ xs ∨ ∃ lo hi, .sub r lo hi ∈ xs) : slB (ups L (frz L xs) r) = none := by
  cases hL : slB (L r) with
  | some y =>
    obtain ⟨sz', rows'⟩ := y
    have := ups_all (L := L) (b := .still sz' rows') (r := r) (l := frz L xs) (fun p hp hr => by
      obtain ⟨_, sz2, rows2, h1, h2⟩ := frz_entry hp
      rw [hr, hL] at h1
      cases h1
      exact h2) (.inl ⟨_, frz_has hL h, rfl⟩)
    rw [this]
    rfl
  | none =>
    have : ups L (frz L xs) r = L r := by
      refine ups_all (fun p hp hr => ?_) (.inr rfl)
      obtain ⟨_, sz2, rows2, h1, h2⟩ := frz_entry hp
      rw [hr, hL] at h1
      cases h1
    rw [this]
    exact hL
theorem nrm_noids (L : Nat → Blk) : ∀ (n : Nat) (a : AV), SizeOf.sizeOf a ≤ n → (nrm L a).ids = [] := by
  intro n
  induction n with
  | zero => intro a ha; cases a <;> simp at ha <;> omega
  | succ n ih =>
    intro a ha
    cases a with
    | own r => simp only [nrm]; split <;> rfl
    | sub r lo hi => simp only [nrm]; split <;> rfl
    | v x => simp only [nrm]; split <;> rfl
    | agg cs =>
      simp only [nrm, nrmL_map, AV.ids]
      rw [List.eq_nil_iff_forall_not_mem]
      intro r hr
      obtain ⟨x, hx, hr⟩ := (memL _ _).1 hr
      obtain ⟨c, hc, rfl⟩ := List.mem_map.1 hx
      rw [ih c (by have := List.sizeOf_lt_of_mem hc; simp at ha; omega)] at hr
      cases hr
    | _ => rfl
theorem nrm_froze {L L' : Nat → Blk} (hF : Froze L L') : ∀ (n : Nat) (a : AV), SizeOf.sizeOf a ≤ n → nrm L' a = nrm L a := by
  intro n
  induction n with
  | zero => intro a ha; cases a <;> simp at ha <;> omega
  | succ n ih =>
    intro a ha
    cases a with
    | own r =>
      simp only [nrm]
      rcases hF r with h | ⟨sz, rows, h1, h2⟩
      · rw [h]
      · rcases slB_cases h1 with ⟨e, h1⟩ | ⟨e, cols, h1⟩ | ⟨e, h1⟩ <;> rw [h1, h2]
    | sub r lo hi =>
      simp only [nrm]
      rcases hF r with h | ⟨sz, rows, h1, h2⟩
      · rw [h]
      · rcases slB_cases h1 with ⟨e, h1⟩ | ⟨e, cols, h1⟩ | ⟨e, h1⟩ <;> rw [h1, h2]
    | agg cs =>
      simp only [nrm, nrmL_map]
      congr 1
      exact List.map_congr_left fun c hc => ih c (by have := List.sizeOf_lt_of_mem hc; simp at ha; omega)
    | _ => rfl
theorem nrm_still (h : HR F W0 w L s Z) {a : AV} {x : Value} (hx : AVR w Z L s a x) : (∀ r, (.own r ∈ leafs a ∨ ∃ lo hi, .sub r lo hi ∈ leafs a) → slB (L r) = none) → AVR w Z (fun _ => .none) (fun _ => nilS) (nrm L a) x := by
  have st : ∀ r sz rows, L r = .still sz rows → Rep w Z (.l sz rows) (s r) := fun r sz rows hL => by
    have := h.blk r
    rw [hL] at this
    exact this
  induction hx with
  | any x => intro _; exact .any x
  | mute x h => intro _; exact .mute x h
  | v x =>
    intro _
    simp only [nrm]
    split
    · rename_i hn; rw [nilV_eq hn]; exact .l _ _ _ (.e _ _ _)
    · exact .v x
  | l sz rows x h => intro _; exact .l _ _ _ h
  | own r x e sz rows hL hx hn => intro hg; have := hg r (.inl (by simp [leafs])); rw [hL] at this; cases this
  | ownOff r x e sz rows hL hx hn => intro hg; have := hg r (.inl (by simp [leafs])); rw [hL] at this; cases this
  | ownTr r x st e sz cols rows hL hx hn =>
    intro hg
    have := hg r (.inl (by simp [leafs]))
    rw [hL] at this
    cases st with
    | whole => cases this
    | _ => simp only [nrm, hL]; exact .any x
  | subOff r lo hi x e sz rows hL h1 h2 A n c hx hn hc hA => intro hg; have := hg r (.inr ⟨lo, hi, by simp [leafs]⟩); rw [hL] at this; cases this
  | subTr r lo hi x st e sz cols rows hL h1 h2 A n c hx hn hc hA =>
    intro hg
    have := hg r (.inr ⟨lo, hi, by simp [leafs]⟩)
    rw [hL] at this
    cases st with
    | whole => cases this
    | _ => simp only [nrm, hL]; exact .any x
  | ownStill r x sz rows hL hx ho => intro _; simp only [nrm, hL]; rw [hx]; exact .l _ _ _ (st r sz rows hL)
  | ownDead r x hL ho => intro _; simp only [nrm, hL]; exact .mute x ho
  | sub r lo hi x e sz rows hL h1 h2 A n c hx hn hc hA => intro hg; have := hg r (.inr ⟨lo, hi, by simp [leafs]⟩); rw [hL] at this; cases this
  | subStill r lo hi x sz rows hL h1 h2 hx => intro _; simp only [nrm, hL]; exact .l _ _ _ hx
  | subDead r lo hi x hL ho => intro _; simp only [nrm, hL]; exact .any x
  | agg cs vs hl _ ih =>
    intro hg
    simp only [nrm]
    rw [nrmL_map]
    refine .agg _ vs (by simp [hl]) fun i a b ha hb => ?_
    rw [List.getElem?_map] at ha
    cases hc : cs[i]? with
    | none => simp [hc] at ha
    | some c =>
      simp [hc] at ha; subst ha
      refine ih i c b hc hb fun r hr => hg r ?_
      simp only [leafs, leafsL_map]
      have hm := List.mem_of_getElem? hc
      rcases hr with hr | ⟨lo, hi, hr⟩
      · exact .inl (List.mem_flatMap.2 ⟨c, hm, hr⟩)
      · exact .inr ⟨lo, hi, List.mem_flatMap.2 ⟨c, hm, hr⟩⟩
  | _ => intro _; exact .any _
theorem OwnOk.callF {f : FuncId} {g : PC} (C : OwnOk P f (ocOf g)) : CallOk P f (frzAbs g) := by
  refine ⟨C.there, fun F W0 w L s Z args vs q out hH hargs hab hc hfree => ?_, fun L L' args q hn => ?_, fun L args q out hab p hp => ?_⟩
  · unfold frzAbs at hab
    split at hab
    · rename_i c r bs hg
      split at hab
      · rename_i hlen
        simp at hab; subst hab
        obtain ⟨Z1, H1, E1, hF⟩ := hH.frz (L0 := L) (leafs.leafsL args) (fun r => .inl rfl)
        have hids : AV.ids.idsL (args.map (nrm L)) = [] := by
          rw [List.eq_nil_iff_forall_not_mem]
          intro r hr
          obtain ⟨x, hx, hr⟩ := (memL _ _).1 hr
          obtain ⟨c, hc, rfl⟩ := List.mem_map.1 hx
          rw [nrm_noids L _ c (Nat.le_refl _)] at hr
          cases hr
        have hargs1 : ARel w Z1 (ups L (frz L (leafs.leafsL args))) s (args.map (nrm L)) vs := ⟨by simp [hargs.1], fun i x y hx hy => by
          rw [List.getElem?_map] at hx
          cases hz : args[i]? with
          | none => simp [hz] at hx
          | some z =>
            simp [hz] at hx; subst hx
            rw [← nrm_froze hF _ z (Nat.le_refl _)]
            refine (nrm_still H1 ((hargs.2 i z y hz hy).mono E1) fun r hr => frz_gone ?_).noids (nrm_noids _ _ z (Nat.le_refl _))
            rw [leafsL_map]
            have hm := List.mem_of_getElem? hz
            rcases hr with hr | ⟨lo, hi, hr⟩
            · exact .inl (List.mem_flatMap.2 ⟨z, hm, hr⟩)
            · exact .inr ⟨lo, hi, List.mem_flatMap.2 ⟨z, hm, hr⟩⟩⟩
        have habs : ownAbs (ocOf g) (args.map (nrm L)) (ups L (frz L (leafs.leafsL args))) q = some ⟨c, r.ren (sh q), hpAt q bs⟩ := by
          have hren : ∀ h : Nat → Option Nat, (args.map (nrm L)).map (AV.ren h) = args.map (nrm L) := fun h => by
            rw [List.map_map]
            exact List.map_congr_left fun a _ => ren_noids _ _ (Nat.le_refl _) (nrm_noids L _ a (Nat.le_refl _))
          unfold ownAbs
          rw [hren, hids]
          simp only [uniq, List.map_nil, ocOf, hg, List.all_nil, true_and, if_pos hlen, zipB, List.nil_append]
          have e : (fun i => some (bk [] q i)) = sh q := by funext i; simp [bk, sh]
          rw [e]
        have hfree1 : ∀ k, q ≤ k → k < q + 16 → ups L (frz L (leafs.leafsL args)) k = .none := fun k h1 h2 => by
          rcases hF k with h | ⟨sz, rows, h, _⟩
          · rw [h]; exact hfree k h1 h2
          · rw [hfree k h1 h2] at h; cases h
        refine (C.call.does F W0 w _ s Z1 _ vs q _ H1 hargs1 habs hc hfree1).mono ?_
        rintro e w' ⟨v, s', Z', rfl, k1, k2, k3⟩
        refine ⟨v, s', Z', rfl, ?_, ?_, ?_⟩
        · rw [ups_append]; exact k1
        · rw [ups_append]; exact E1.trans k2
        · rw [ups_append]; exact k3
      · cases hab
    · cases hab
  · unfold frzAbs
    have e1 : args.map (nrm L') = args.map (nrm L) := List.map_congr_left fun x hx => nrm_near fun r hr => hn r (List.mem_flatMap.2 ⟨r, (memL _ _).2 ⟨x, hx, hr⟩, by simp⟩)
    have e2 : frz L' (leafs.leafsL args) = frz L (leafs.leafsL args) := frz_near fun r hr => hn r (List.mem_flatMap.2 ⟨r, leafsL_ids hr, by simp⟩)
    rw [e1, e2]
  · unfold frzAbs at hab
    split at hab
    · rename_i c r bs hg
      split at hab
      · rename_i hlen
        simp at hab; subst hab
        rcases List.mem_append.1 hp with hp | hp
        · left
          exact List.mem_flatMap.2 ⟨p.1, leafsL_ids (frz_entry hp).1, by simp⟩
        · right
          have key : ∀ (bs : List Blk) (q : Nat) p, p ∈ hpAt q bs → q ≤ p.1 ∧ p.1 < q + bs.length := by
            intro bs
            induction bs with
            | nil => intro q p hp; simp [hpAt] at hp
            | cons b bs ih =>
              intro q p hp
              simp only [hpAt, List.mem_cons] at hp
              rcases hp with rfl | hp
              · simp
              · have := ih (q + 1) p hp
                simp; omega
          have := key bs q p hp
          omega
      · cases hab
    · cases hab
end
set_option maxRecDepth 100000 in
theorem evL : (((((((((type_of% @e_skip) ∧ ((type_of% @e_label) ∧ (type_of% @e_ret))) ∧ ((type_of% @e_exit) ∧ ((type_of% @e_seq) ∧ (type_of% @e_cond)))) ∧ (((type_of% @e_block) ∧ ((type_of% @e_region) ∧ (type_of% @seqK_normal))) ∧ (((type_of% @seqK_ret) ∧ (type_of% @seqK_exit)) ∧ ((type_of% @blkK_normal) ∧ (type_of% @blkK_ret))))) ∧ ((((type_of% @blkK_exit) ∧ ((type_of% @condK_some) ∧ (type_of% @regK_true))) ∧ (((type_of% @regK_false) ∧ (type_of% @e_nil)) ∧ ((type_of% @e_cons) ∧ (type_of% @gateK_go)))) ∧ (((type_of% @gateK_skip) ∧ ((type_of% @gateK_ask) ∧ (type_of% @pickK_some))) ∧ (((type_of% @exK_some) ∧ (type_of% @x_pick)) ∧ ((type_of% @x_move) ∧ (type_of% @x_assign)))))) ∧ (((((type_of% @x_alloc) ∧ ((type_of% @x_box) ∧ (type_of% @x_build))) ∧ ((type_of% @x_buildSlice) ∧ ((type_of% @x_load) ∧ (type_of% @x_store)))) ∧ (((type_of% @x_binOp) ∧ ((type_of% @x_unOp) ∧ (type_of% @x_convert))) ∧ (((type_of% @x_makeSlice) ∧ (type_of% @x_slice)) ∧ ((type_of% @x_fieldAddr) ∧ (type_of% @x_field))))) ∧ ((((type_of% @x_indexAddr) ∧ ((type_of% @x_extract) ∧ (type_of% @x_nilCheck))) ∧ (((type_of% @x_call) ∧ (type_of% @x_len)) ∧ ((type_of% @x_append) ∧ (type_of% @x_min)))) ∧ (((type_of% @x_copy) ∧ ((type_of% @callK_some) ∧ (type_of% @done_ret))) ∧ (((type_of% @done_normal) ∧ (type_of% @doneO_ret)) ∧ ((type_of% @doneO_normal) ∧ (type_of% @endsO_one))))))) ∧ ((((((type_of% @endsO_nil) ∧ ((type_of% @endsO_more) ∧ (type_of% @gate_none))) ∧ ((type_of% @gate_some) ∧ ((type_of% @gateS_none) ∧ (type_of% @gateS_some)))) ∧ (((type_of% @gateV_bool) ∧ ((type_of% @gateV_undef) ∧ (type_of% @List.find?_cons.{0}))) ∧ (((type_of% @List.find?_nil.{0}) ∧ (type_of% @beq_self_eq_true.{0})) ∧ ((type_of% @List.map_cons.{0, 0}) ∧ (type_of% @List.map_nil.{0, 0}))))) ∧ ((((type_of% @List.getD_cons_zero.{0}) ∧ ((type_of% @List.getD_cons_succ.{0}) ∧ (type_of% @List.getD_nil.{0}))) ∧ (((type_of% @List.set_cons_zero.{0}) ∧ (type_of% @List.set_cons_succ.{0})) ∧ ((type_of% @List.length_cons.{0}) ∧ (type_of% @List.length_nil.{0})))) ∧ (((type_of% @List.cons_append.{0}) ∧ ((type_of% @List.nil_append.{0}) ∧ (type_of% @List.append_nil.{0}))) ∧ (((type_of% @List.getElem?_cons_zero.{0}) ∧ (type_of% @List.getElem?_cons_succ.{0})) ∧ ((type_of% @List.getElem?_toArray.{0}) ∧ (type_of% @List.getElem?_nil.{0})))))) ∧ (((((type_of% @List.take_zero.{0}) ∧ ((type_of% @List.take_succ_cons.{0}) ∧ (type_of% @List.take_nil.{0}))) ∧ (((type_of% @List.drop_zero.{0}) ∧ (type_of% @List.drop_succ_cons.{0})) ∧ ((type_of% @List.drop_nil.{0}) ∧ (type_of% @List.headD_cons.{0})))) ∧ (((type_of% @List.tail_cons.{0}) ∧ ((type_of% @List.flatten_cons.{0}) ∧ (type_of% @List.flatten_nil.{0}))) ∧ (((type_of% @List.flatMap_cons.{0, 0}) ∧ (type_of% @List.flatMap_nil.{0, 0})) ∧ ((type_of% @List.toList_toArray.{0}) ∧ (type_of% @Array.toList_append.{0}))))) ∧ ((((type_of% @Option.bind_some.{0, 0}) ∧ ((type_of% @Option.map_some.{0, 0}) ∧ (type_of% @Option.map_none.{0, 0}))) ∧ (((type_of% @Option.isSome_some.{0}) ∧ (type_of% @List.all_nil.{0})) ∧ ((type_of% @List.all_cons.{0}) ∧ (type_of% @Bool.and_self)))) ∧ (((type_of% @Bool.and_true) ∧ ((type_of% @Bool.true_and) ∧ (type_of% @true_and))) ∧ (((type_of% @and_true) ∧ (type_of% @List.size_toArray.{0})) ∧ ((type_of% @Bool.false_eq_true) ∧ (type_of% @Bool.true_eq_false)))))))) ∧ (((((((type_of% @false_implies) ∧ ((type_of% @true_implies) ∧ (type_of% @Bool.not_true))) ∧ ((type_of% @Bool.not_false) ∧ ((type_of% @and_self) ∧ (type_of% @decide_true)))) ∧ (((type_of% @decide_false) ∧ ((type_of% @eq_self.{1}) ∧ (type_of% @ne_eq.{1}))) ∧ (((type_of% @not_false_eq_true) ∧ (type_of% @false_and)) ∧ ((type_of% @and_false) ∧ (type_of% @List.filter_nil.{0}))))) ∧ ((((type_of% @List.filter_cons.{0}) ∧ ((type_of% @List.isEmpty_nil.{0}) ∧ (type_of% @List.isEmpty_cons.{0}))) ∧ (((type_of% @bne_self_eq_false.{0}) ∧ (type_of% @Nat.lt_add_one)) ∧ ((type_of% @Nat.zero_lt_succ) ∧ (type_of% @List.append_assoc.{0})))) ∧ (((type_of% @Nat.zero_le) ∧ ((type_of% @and_self_iff) ∧ (type_of% @List.any_nil.{0}))) ∧ (((type_of% @List.any_cons.{0}) ∧ (type_of% @List.filterMap_nil.{0, 0})) ∧ ((type_of% @List.filterMap_cons.{0, 0}) ∧ (type_of% @List.contains_nil.{0})))))) ∧ (((((type_of% @List.contains_cons.{0}) ∧ ((type_of% @Bool.or_false) ∧ (type_of% @Bool.false_or))) ∧ ((type_of% @Bool.or_true) ∧ ((type_of% @Bool.true_or) ∧ (type_of% @Bool.false_and)))) ∧ (((type_of% @Bool.and_false) ∧ ((type_of% @ownAbs.eq_1) ∧ (type_of% @frzAbs.eq_1))) ∧ (((type_of% @bk.eq_1) ∧ (type_of% @fpD.eq_1)) ∧ ((type_of% @up.eq_1) ∧ (type_of% @dstsOf.eq_1))))) ∧ ((((type_of% @oLoadQ.eq_1) ∧ ((type_of% @oStoreQ.eq_1) ∧ (type_of% @oBuildSliceQ.eq_1))) ∧ (((type_of% @oBuildTree.eq_1) ∧ (type_of% @oAppendQ.eq_1)) ∧ ((type_of% @oAppendTree.eq_1) ∧ (type_of% @deadL.eq_1)))) ∧ (((type_of% @kidBlk.eq_1) ∧ ((type_of% @oAlloc.eq_1) ∧ (type_of% @oBox.eq_1))) ∧ (((type_of% @oBuild.eq_1) ∧ (type_of% @oBuildSlice.eq_1)) ∧ ((type_of% @oAppend.eq_1) ∧ (type_of% @oFieldAddr.eq_1))))))) ∧ ((((((type_of% @oSlice.eq_1) ∧ ((type_of% @oConvert.eq_1) ∧ (type_of% @rowLoad.eq_1))) ∧ ((type_of% @putAt.eq_1) ∧ ((type_of% @pureAbs.eq_1) ∧ (type_of% @sh.eq_1)))) ∧ (((type_of% @fpOf.eq_1) ∧ ((type_of% @foot.eq_1) ∧ (type_of% @Go.Call.operands.eq_1))) ∧ (((type_of% @oMin.eq_1) ∧ (type_of% @oMin.eq_2)) ∧ ((type_of% @oCopy.eq_1) ∧ (type_of% @oCopy.eq_2))))) ∧ ((((type_of% @oCopy.eq_3) ∧ ((type_of% @eqAVs.eq_1) ∧ (type_of% @eqAVs.eq_2))) ∧ (((type_of% @eqAVs.eq_3) ∧ (type_of% @eqAVs.eq_4)) ∧ ((type_of% @leafs.eq_1) ∧ (type_of% @leafs.eq_2)))) ∧ (((type_of% @leafs.eq_3) ∧ ((type_of% @leafs.eq_4) ∧ (type_of% @leafs.leafsL.eq_1))) ∧ (((type_of% @leafs.leafsL.eq_2) ∧ (type_of% @uniq.eq_1)) ∧ ((type_of% @uniq.eq_2) ∧ (type_of% @idxOf.eq_1)))))) ∧ (((((type_of% @idxOf.eq_2) ∧ ((type_of% @zipB.eq_1) ∧ (type_of% @zipB.eq_2))) ∧ (((type_of% @Blk.liveB.eq_1) ∧ (type_of% @Blk.liveB.eq_2)) ∧ ((type_of% @Blk.liveB.eq_3) ∧ (type_of% @Blk.liveB.eq_4)))) ∧ (((type_of% @Blk.liveB.eq_5) ∧ ((type_of% @boolOf.eq_1) ∧ (type_of% @boolOf.eq_2))) ∧ (((type_of% @evA.eq_1) ∧ (type_of% @evA.eq_2)) ∧ ((type_of% @evA.eq_3) ∧ (type_of% @evA.eq_4))))) ∧ ((((type_of% @putT.eq_1) ∧ ((type_of% @putT.eq_2) ∧ (type_of% @refn.eq_1))) ∧ (((type_of% @refn.eq_2) ∧ (type_of% @oBin.eq_1)) ∧ ((type_of% @oBin.eq_2) ∧ (type_of% @oBin.eq_3)))) ∧ (((type_of% @oBin.eq_4) ∧ ((type_of% @oBin.eq_5) ∧ (type_of% @oBin.eq_6))) ∧ (((type_of% @oBin.eq_7) ∧ (type_of% @oBin.eq_8)) ∧ ((type_of% @oBin.eq_9) ∧ (type_of% @oBin.eq_10))))))))) ∧ ((((((((type_of% @oBin.eq_11) ∧ ((type_of% @oBin.eq_12) ∧ (type_of% @oBin.eq_13))) ∧ ((type_of% @oBin.eq_14) ∧ ((type_of% @oBin.eq_15) ∧ (type_of% @oBin.eq_16)))) ∧ (((type_of% @oBin.eq_17) ∧ ((type_of% @oBin.eq_18) ∧ (type_of% @oBin.eq_19))) ∧ (((type_of% @oBin.eq_20) ∧ (type_of% @oBin.eq_21)) ∧ ((type_of% @oBin.eq_22) ∧ (type_of% @oBin.eq_23))))) ∧ ((((type_of% @oBin.eq_24) ∧ ((type_of% @oBin.eq_25) ∧ (type_of% @oUn.eq_1))) ∧ (((type_of% @oUn.eq_2) ∧ (type_of% @oUn.eq_3)) ∧ ((type_of% @upsl.eq_1) ∧ (type_of% @upsl.eq_2)))) ∧ (((type_of% @upl.eq_1) ∧ ((type_of% @upl.eq_2) ∧ (type_of% @ups.eq_1))) ∧ (((type_of% @ups.eq_2) ∧ (type_of% @lk.eq_1)) ∧ ((type_of% @lk.eq_2) ∧ (type_of% @resL.eq_1)))))) ∧ (((((type_of% @resL.eq_2) ∧ ((type_of% @resA.eq_1) ∧ (type_of% @resA.eq_2))) ∧ ((type_of% @packA.eq_1) ∧ ((type_of% @packA.eq_2) ∧ (type_of% @oLoadKid.eq_1)))) ∧ (((type_of% @oLoadKid.eq_2) ∧ ((type_of% @oStoreTree.eq_1) ∧ (type_of% @oStoreTree.eq_2))) ∧ (((type_of% @isTr.eq_1) ∧ (type_of% @isTr.eq_2)) ∧ ((type_of% @isTrP.eq_1) ∧ (type_of% @isTrP.eq_2))))) ∧ ((((type_of% @tkd.eq_1) ∧ ((type_of% @tkd.eq_2) ∧ (type_of% @tkd.eq_3))) ∧ (((type_of% @tkd.eq_4) ∧ (type_of% @tkds.eq_1)) ∧ ((type_of% @tkds.eq_2) ∧ (type_of% @tkds.eq_3)))) ∧ (((type_of% @tkRows.eq_1) ∧ ((type_of% @tkRows.eq_2) ∧ (type_of% @ownOf.eq_1))) ∧ (((type_of% @ownOf.eq_2) ∧ (type_of% @oField.eq_1)) ∧ ((type_of% @oField.eq_2) ∧ (type_of% @oExtract.eq_1))))))) ∧ ((((((type_of% @oExtract.eq_2) ∧ ((type_of% @oNil.eq_1) ∧ (type_of% @oNil.eq_2))) ∧ ((type_of% @oNil.eq_3) ∧ ((type_of% @oNil.eq_4) ∧ (type_of% @oNil.eq_5)))) ∧ (((type_of% @oSliceQ.eq_1) ∧ ((type_of% @oSliceQ.eq_2) ∧ (type_of% @oLen.eq_1))) ∧ (((type_of% @oLen.eq_2) ∧ (type_of% @fillA.eq_1)) ∧ ((type_of% @fillA.eq_2) ∧ (type_of% @fillR.eq_1))))) ∧ ((((type_of% @fillR.eq_2) ∧ ((type_of% @slB.eq_1) ∧ (type_of% @slB.eq_2))) ∧ (((type_of% @slB.eq_3) ∧ (type_of% @slB.eq_4)) ∧ ((type_of% @dk.eq_1) ∧ (type_of% @dk.eq_2)))) ∧ (((type_of% @dk.eq_3) ∧ ((type_of% @dk.eq_4) ∧ (type_of% @dk.eq_5))) ∧ (((type_of% @dk.eq_6) ∧ (type_of% @dks.eq_1)) ∧ ((type_of% @dks.eq_2) ∧ (type_of% @dks.eq_3)))))) ∧ (((((type_of% @dkRows.eq_1) ∧ ((type_of% @dkRows.eq_2) ∧ (type_of% @frz.eq_1))) ∧ (((type_of% @frz.eq_2) ∧ (type_of% @frz.eq_3)) ∧ ((type_of% @frz.eq_4) ∧ (type_of% @loOf.eq_1)))) ∧ (((type_of% @loOf.eq_2) ∧ ((type_of% @loOf.eq_3) ∧ (type_of% @hiOf.eq_1))) ∧ (((type_of% @hiOf.eq_2) ∧ (type_of% @hiOf.eq_3)) ∧ ((type_of% @lenOf.eq_1) ∧ (type_of% @lenOf.eq_2))))) ∧ ((((type_of% @lenOf.eq_3) ∧ ((type_of% @lenOf.eq_4) ∧ (type_of% @lenOf.eq_5))) ∧ (((type_of% @rowsOf.eq_1) ∧ (type_of% @rowsOf.eq_2)) ∧ ((type_of% @rowsOf.eq_3) ∧ (type_of% @rowsOf.eq_4)))) ∧ (((type_of% @rowsOf.eq_5) ∧ ((type_of% @nilV.eq_1) ∧ (type_of% @nilV.eq_2))) ∧ (((type_of% @lenV.eq_1) ∧ (type_of% @lenV.eq_2)) ∧ ((type_of% @views.eq_1) ∧ (type_of% @views.eq_2)))))))) ∧ (((((((type_of% @viewsOk.eq_1) ∧ ((type_of% @viewsOk.eq_2) ∧ (type_of% @CK.av.eq_1))) ∧ ((type_of% @CK.av.eq_2) ∧ ((type_of% @CK.av.eq_3) ∧ (type_of% @CK.av.eq_4)))) ∧ (((type_of% @CK.av.eq_5) ∧ ((type_of% @CK.ok.eq_1) ∧ (type_of% @CK.ok.eq_2))) ∧ (((type_of% @CK.ok.eq_3) ∧ (type_of% @CK.ok.eq_4)) ∧ ((type_of% @CK.ok.eq_5) ∧ (type_of% @AV.cells.eq_1))))) ∧ ((((type_of% @AV.cells.eq_2) ∧ ((type_of% @AV.one.eq_1) ∧ (type_of% @AV.one.eq_2))) ∧ (((type_of% @AV.one.eq_3) ∧ (type_of% @AV.one.eq_4)) ∧ ((type_of% @AV.one.eq_5) ∧ (type_of% @Go.Value.oneCell'.eq_1)))) ∧ (((type_of% @Go.Value.oneCell'.eq_2) ∧ ((type_of% @Go.Value.oneCell'.eq_3) ∧ (type_of% @Go.Value.cells.eq_1))) ∧ (((type_of% @Go.Value.cells.eq_2) ∧ (type_of% @nrm.eq_1)) ∧ ((type_of% @nrm.eq_2) ∧ (type_of% @nrm.eq_3)))))) ∧ (((((type_of% @nrm.eq_4) ∧ ((type_of% @nrm.eq_5) ∧ (type_of% @nrm.eq_6))) ∧ (((type_of% @nrm.eq_7) ∧ (type_of% @nrm.nrmL.eq_1)) ∧ ((type_of% @nrm.nrmL.eq_2) ∧ (type_of% @hpAt.eq_1)))) ∧ (((type_of% @hpAt.eq_2) ∧ ((type_of% @AV.ren.eq_1) ∧ (type_of% @AV.ren.eq_2))) ∧ (((type_of% @AV.ren.eq_3) ∧ (type_of% @AV.ren.eq_4)) ∧ ((type_of% @AV.ren.eq_5) ∧ (type_of% @AV.ren.eq_6))))) ∧ ((((type_of% @AV.ren.eq_7) ∧ ((type_of% @AV.ren.eq_8) ∧ (type_of% @AV.ren.eq_9))) ∧ (((type_of% @AV.ren.eq_10) ∧ (type_of% @AV.ren.eq_11)) ∧ ((type_of% @AV.ren.renL.eq_1) ∧ (type_of% @AV.ren.renL.eq_2)))) ∧ (((type_of% @Blk.ren.eq_1) ∧ ((type_of% @Blk.ren.eq_2) ∧ (type_of% @footO.eq_1))) ∧ (((type_of% @footO.eq_2) ∧ (type_of% @blkIds.eq_1)) ∧ ((type_of% @blkIds.eq_2) ∧ (type_of% @blkIds.eq_3))))))) ∧ ((((((type_of% @blkIds.eq_4) ∧ ((type_of% @AV.ids.eq_1) ∧ (type_of% @AV.ids.eq_2))) ∧ ((type_of% @AV.ids.eq_3) ∧ ((type_of% @AV.ids.eq_4) ∧ (type_of% @AV.ids.eq_5)))) ∧ (((type_of% @AV.ids.eq_6) ∧ ((type_of% @AV.ids.eq_7) ∧ (type_of% @AV.ids.idsL.eq_1))) ∧ (((type_of% @AV.ids.idsL.eq_2) ∧ (type_of% @Go.Op.operands.eq_1)) ∧ ((type_of% @Go.Op.operands.eq_2) ∧ (type_of% @Go.Op.operands.eq_3))))) ∧ ((((type_of% @Go.Op.operands.eq_4) ∧ ((type_of% @Go.Op.operands.eq_5) ∧ (type_of% @Go.Op.operands.eq_6))) ∧ (((type_of% @Go.Op.operands.eq_7) ∧ (type_of% @Go.Op.operands.eq_8)) ∧ ((type_of% @Go.Op.operands.eq_9) ∧ (type_of% @Go.Op.operands.eq_10)))) ∧ (((type_of% @Go.Op.operands.eq_11) ∧ ((type_of% @Go.Op.operands.eq_12) ∧ (type_of% @Go.Op.operands.eq_13))) ∧ (((type_of% @Go.Op.operands.eq_14) ∧ (type_of% @Go.Op.operands.eq_15)) ∧ ((type_of% @Go.Op.operands.eq_16) ∧ (type_of% @Go.Op.operands.eq_17)))))) ∧ (((((type_of% @Go.Op.operands.eq_18) ∧ ((type_of% @Go.Op.operands.eq_19) ∧ (type_of% @Go.Op.operands.eq_20))) ∧ (((type_of% @Go.Op.operands.eq_21) ∧ (type_of% @Go.Op.operands.eq_22)) ∧ ((type_of% @Go.Op.operands.eq_23) ∧ (type_of% @Go.Op.operands.eq_24)))) ∧ (((type_of% @Go.Op.operands.eq_25) ∧ ((type_of% @Go.Op.operands.eq_26) ∧ (type_of% @Go.Op.operands.eq_27))) ∧ (((type_of% @Go.Op.operands.eq_28) ∧ (type_of% @Go.Op.operands.eq_29)) ∧ ((type_of% @Go.Op.operands.eq_30) ∧ (type_of% @Go.Op.operands.eq_31))))) ∧ ((((type_of% @Go.Op.operands.eq_32) ∧ ((type_of% @Go.Op.operands.eq_33) ∧ (type_of% @Go.Op.operands.eq_34))) ∧ (((type_of% @Go.Op.operands.eq_35) ∧ (type_of% @Go.Op.operands.eq_36)) ∧ ((type_of% @Go.Op.operands.eq_37) ∧ (type_of% @Go.Op.operands.eq_38)))) ∧ (((type_of% @Go.Op.operands.eq_39) ∧ ((type_of% @Go.Op.operands.eq_40) ∧ (type_of% @Go.Op.operands.eq_41))) ∧ (((type_of% @Go.Op.operands.eq_42) ∧ (type_of% @Go.Op.operands.eq_43)) ∧ ((type_of% @List.replicate.eq_1.{0}) ∧ (type_of% @List.replicate.eq_2.{0})))))))))) :=
  ⟨⟨⟨⟨⟨⟨⟨⟨@e_skip, ⟨@e_label, @e_ret⟩⟩, ⟨@e_exit, ⟨@e_seq, @e_cond⟩⟩⟩, ⟨⟨@e_block, ⟨@e_region, @seqK_normal⟩⟩, ⟨⟨@seqK_ret, @seqK_exit⟩, ⟨@blkK_normal, @blkK_ret⟩⟩⟩⟩, ⟨⟨⟨@blkK_exit, ⟨@condK_some, @regK_true⟩⟩, ⟨⟨@regK_false, @e_nil⟩, ⟨@e_cons, @gateK_go⟩⟩⟩, ⟨⟨@gateK_skip, ⟨@gateK_ask, @pickK_some⟩⟩, ⟨⟨@exK_some, @x_pick⟩, ⟨@x_move, @x_assign⟩⟩⟩⟩⟩, ⟨⟨⟨⟨@x_alloc, ⟨@x_box, @x_build⟩⟩, ⟨@x_buildSlice, ⟨@x_load, @x_store⟩⟩⟩, ⟨⟨@x_binOp, ⟨@x_unOp, @x_convert⟩⟩, ⟨⟨@x_makeSlice, @x_slice⟩, ⟨@x_fieldAddr, @x_field⟩⟩⟩⟩, ⟨⟨⟨@x_indexAddr, ⟨@x_extract, @x_nilCheck⟩⟩, ⟨⟨@x_call, @x_len⟩, ⟨@x_append, @x_min⟩⟩⟩, ⟨⟨@x_copy, ⟨@callK_some, @done_ret⟩⟩, ⟨⟨@done_normal, @doneO_ret⟩, ⟨@doneO_normal, @endsO_one⟩⟩⟩⟩⟩⟩, ⟨⟨⟨⟨⟨@endsO_nil, ⟨@endsO_more, @gate_none⟩⟩, ⟨@gate_some, ⟨@gateS_none, @gateS_some⟩⟩⟩, ⟨⟨@gateV_bool, ⟨@gateV_undef, @List.find?_cons.{0}⟩⟩, ⟨⟨@List.find?_nil.{0}, @beq_self_eq_true.{0}⟩, ⟨@List.map_cons.{0, 0}, @List.map_nil.{0, 0}⟩⟩⟩⟩, ⟨⟨⟨@List.getD_cons_zero.{0}, ⟨@List.getD_cons_succ.{0}, @List.getD_nil.{0}⟩⟩, ⟨⟨@List.set_cons_zero.{0}, @List.set_cons_succ.{0}⟩, ⟨@List.length_cons.{0}, @List.length_nil.{0}⟩⟩⟩, ⟨⟨@List.cons_append.{0}, ⟨@List.nil_append.{0}, @List.append_nil.{0}⟩⟩, ⟨⟨@List.getElem?_cons_zero.{0}, @List.getElem?_cons_succ.{0}⟩, ⟨@List.getElem?_toArray.{0}, @List.getElem?_nil.{0}⟩⟩⟩⟩⟩, ⟨⟨⟨⟨@List.take_zero.{0}, ⟨@List.take_succ_cons.{0}, @List.take_nil.{0}⟩⟩, ⟨⟨@List.drop_zero.{0}, @List.drop_succ_cons.{0}⟩, ⟨@List.drop_nil.{0}, @List.headD_cons.{0}⟩⟩⟩, ⟨⟨@List.tail_cons.{0}, ⟨@List.flatten_cons.{0}, @List.flatten_nil.{0}⟩⟩, ⟨⟨@List.flatMap_cons.{0, 0}, @List.flatMap_nil.{0, 0}⟩, ⟨@List.toList_toArray.{0}, @Array.toList_append.{0}⟩⟩⟩⟩, ⟨⟨⟨@Option.bind_some.{0, 0}, ⟨@Option.map_some.{0, 0}, @Option.map_none.{0, 0}⟩⟩, ⟨⟨@Option.isSome_some.{0}, @List.all_nil.{0}⟩, ⟨@List.all_cons.{0}, @Bool.and_self⟩⟩⟩, ⟨⟨@Bool.and_true, ⟨@Bool.true_and, @true_and⟩⟩, ⟨⟨@and_true, @List.size_toArray.{0}⟩, ⟨@Bool.false_eq_true, @Bool.true_eq_false⟩⟩⟩⟩⟩⟩⟩, ⟨⟨⟨⟨⟨⟨@false_implies, ⟨@true_implies, @Bool.not_true⟩⟩, ⟨@Bool.not_false, ⟨@and_self, @decide_true⟩⟩⟩, ⟨⟨@decide_false, ⟨@eq_self.{1}, @ne_eq.{1}⟩⟩, ⟨⟨@not_false_eq_true, @false_and⟩, ⟨@and_false, @List.filter_nil.{0}⟩⟩⟩⟩, ⟨⟨⟨@List.filter_cons.{0}, ⟨@List.isEmpty_nil.{0}, @List.isEmpty_cons.{0}⟩⟩, ⟨⟨@bne_self_eq_false.{0}, @Nat.lt_add_one⟩, ⟨@Nat.zero_lt_succ, @List.append_assoc.{0}⟩⟩⟩, ⟨⟨@Nat.zero_le, ⟨@and_self_iff, @List.any_nil.{0}⟩⟩, ⟨⟨@List.any_cons.{0}, @List.filterMap_nil.{0, 0}⟩, ⟨@List.filterMap_cons.{0, 0}, @List.contains_nil.{0}⟩⟩⟩⟩⟩, ⟨⟨⟨⟨@List.contains_cons.{0}, ⟨@Bool.or_false, @Bool.false_or⟩⟩, ⟨@Bool.or_true, ⟨@Bool.true_or, @Bool.false_and⟩⟩⟩, ⟨⟨@Bool.and_false, ⟨@ownAbs.eq_1, @frzAbs.eq_1⟩⟩, ⟨⟨@bk.eq_1, @fpD.eq_1⟩, ⟨@up.eq_1, @dstsOf.eq_1⟩⟩⟩⟩, ⟨⟨⟨@oLoadQ.eq_1, ⟨@oStoreQ.eq_1, @oBuildSliceQ.eq_1⟩⟩, ⟨⟨@oBuildTree.eq_1, @oAppendQ.eq_1⟩, ⟨@oAppendTree.eq_1, @deadL.eq_1⟩⟩⟩, ⟨⟨@kidBlk.eq_1, ⟨@oAlloc.eq_1, @oBox.eq_1⟩⟩, ⟨⟨@oBuild.eq_1, @oBuildSlice.eq_1⟩, ⟨@oAppend.eq_1, @oFieldAddr.eq_1⟩⟩⟩⟩⟩⟩, ⟨⟨⟨⟨⟨@oSlice.eq_1, ⟨@oConvert.eq_1, @rowLoad.eq_1⟩⟩, ⟨@putAt.eq_1, ⟨@pureAbs.eq_1, @sh.eq_1⟩⟩⟩, ⟨⟨@fpOf.eq_1, ⟨@foot.eq_1, @Go.Call.operands.eq_1⟩⟩, ⟨⟨@oMin.eq_1, @oMin.eq_2⟩, ⟨@oCopy.eq_1, @oCopy.eq_2⟩⟩⟩⟩, ⟨⟨⟨@oCopy.eq_3, ⟨@eqAVs.eq_1, @eqAVs.eq_2⟩⟩, ⟨⟨@eqAVs.eq_3, @eqAVs.eq_4⟩, ⟨@leafs.eq_1, @leafs.eq_2⟩⟩⟩, ⟨⟨@leafs.eq_3, ⟨@leafs.eq_4, @leafs.leafsL.eq_1⟩⟩, ⟨⟨@leafs.leafsL.eq_2, @uniq.eq_1⟩, ⟨@uniq.eq_2, @idxOf.eq_1⟩⟩⟩⟩⟩, ⟨⟨⟨⟨@idxOf.eq_2, ⟨@zipB.eq_1, @zipB.eq_2⟩⟩, ⟨⟨@Blk.liveB.eq_1, @Blk.liveB.eq_2⟩, ⟨@Blk.liveB.eq_3, @Blk.liveB.eq_4⟩⟩⟩, ⟨⟨@Blk.liveB.eq_5, ⟨@boolOf.eq_1, @boolOf.eq_2⟩⟩, ⟨⟨@evA.eq_1, @evA.eq_2⟩, ⟨@evA.eq_3, @evA.eq_4⟩⟩⟩⟩, ⟨⟨⟨@putT.eq_1, ⟨@putT.eq_2, @refn.eq_1⟩⟩, ⟨⟨@refn.eq_2, @oBin.eq_1⟩, ⟨@oBin.eq_2, @oBin.eq_3⟩⟩⟩, ⟨⟨@oBin.eq_4, ⟨@oBin.eq_5, @oBin.eq_6⟩⟩, ⟨⟨@oBin.eq_7, @oBin.eq_8⟩, ⟨@oBin.eq_9, @oBin.eq_10⟩⟩⟩⟩⟩⟩⟩⟩, ⟨⟨⟨⟨⟨⟨⟨@oBin.eq_11, ⟨@oBin.eq_12, @oBin.eq_13⟩⟩, ⟨@oBin.eq_14, ⟨@oBin.eq_15, @oBin.eq_16⟩⟩⟩, ⟨⟨@oBin.eq_17, ⟨@oBin.eq_18, @oBin.eq_19⟩⟩, ⟨⟨@oBin.eq_20, @oBin.eq_21⟩, ⟨@oBin.eq_22, @oBin.eq_23⟩⟩⟩⟩, ⟨⟨⟨@oBin.eq_24, ⟨@oBin.eq_25, @oUn.eq_1⟩⟩, ⟨⟨@oUn.eq_2, @oUn.eq_3⟩, ⟨@upsl.eq_1, @upsl.eq_2⟩⟩⟩, ⟨⟨@upl.eq_1, ⟨@upl.eq_2, @ups.eq_1⟩⟩, ⟨⟨@ups.eq_2, @lk.eq_1⟩, ⟨@lk.eq_2, @resL.eq_1⟩⟩⟩⟩⟩, ⟨⟨⟨⟨@resL.eq_2, ⟨@resA.eq_1, @resA.eq_2⟩⟩, ⟨@packA.eq_1, ⟨@packA.eq_2, @oLoadKid.eq_1⟩⟩⟩, ⟨⟨@oLoadKid.eq_2, ⟨@oStoreTree.eq_1, @oStoreTree.eq_2⟩⟩, ⟨⟨@isTr.eq_1, @isTr.eq_2⟩, ⟨@isTrP.eq_1, @isTrP.eq_2⟩⟩⟩⟩, ⟨⟨⟨@tkd.eq_1, ⟨@tkd.eq_2, @tkd.eq_3⟩⟩, ⟨⟨@tkd.eq_4, @tkds.eq_1⟩, ⟨@tkds.eq_2, @tkds.eq_3⟩⟩⟩, ⟨⟨@tkRows.eq_1, ⟨@tkRows.eq_2, @ownOf.eq_1⟩⟩, ⟨⟨@ownOf.eq_2, @oField.eq_1⟩, ⟨@oField.eq_2, @oExtract.eq_1⟩⟩⟩⟩⟩⟩, ⟨⟨⟨⟨⟨@oExtract.eq_2, ⟨@oNil.eq_1, @oNil.eq_2⟩⟩, ⟨@oNil.eq_3, ⟨@oNil.eq_4, @oNil.eq_5⟩⟩⟩, ⟨⟨@oSliceQ.eq_1, ⟨@oSliceQ.eq_2, @oLen.eq_1⟩⟩, ⟨⟨@oLen.eq_2, @fillA.eq_1⟩, ⟨@fillA.eq_2, @fillR.eq_1⟩⟩⟩⟩, ⟨⟨⟨@fillR.eq_2, ⟨@slB.eq_1, @slB.eq_2⟩⟩, ⟨⟨@slB.eq_3, @slB.eq_4⟩, ⟨@dk.eq_1, @dk.eq_2⟩⟩⟩, ⟨⟨@dk.eq_3, ⟨@dk.eq_4, @dk.eq_5⟩⟩, ⟨⟨@dk.eq_6, @dks.eq_1⟩, ⟨@dks.eq_2, @dks.eq_3⟩⟩⟩⟩⟩, ⟨⟨⟨⟨@dkRows.eq_1, ⟨@dkRows.eq_2, @frz.eq_1⟩⟩, ⟨⟨@frz.eq_2, @frz.eq_3⟩, ⟨@frz.eq_4, @loOf.eq_1⟩⟩⟩, ⟨⟨@loOf.eq_2, ⟨@loOf.eq_3, @hiOf.eq_1⟩⟩, ⟨⟨@hiOf.eq_2, @hiOf.eq_3⟩, ⟨@lenOf.eq_1, @lenOf.eq_2⟩⟩⟩⟩, ⟨⟨⟨@lenOf.eq_3, ⟨@lenOf.eq_4, @lenOf.eq_5⟩⟩, ⟨⟨@rowsOf.eq_1, @rowsOf.eq_2⟩, ⟨@rowsOf.eq_3, @rowsOf.eq_4⟩⟩⟩, ⟨⟨@rowsOf.eq_5, ⟨@nilV.eq_1, @nilV.eq_2⟩⟩, ⟨⟨@lenV.eq_1, @lenV.eq_2⟩, ⟨@views.eq_1, @views.eq_2⟩⟩⟩⟩⟩⟩⟩, ⟨⟨⟨⟨⟨⟨@viewsOk.eq_1, ⟨@viewsOk.eq_2, @CK.av.eq_1⟩⟩, ⟨@CK.av.eq_2, ⟨@CK.av.eq_3, @CK.av.eq_4⟩⟩⟩, ⟨⟨@CK.av.eq_5, ⟨@CK.ok.eq_1, @CK.ok.eq_2⟩⟩, ⟨⟨@CK.ok.eq_3, @CK.ok.eq_4⟩, ⟨@CK.ok.eq_5, @AV.cells.eq_1⟩⟩⟩⟩, ⟨⟨⟨@AV.cells.eq_2, ⟨@AV.one.eq_1, @AV.one.eq_2⟩⟩, ⟨⟨@AV.one.eq_3, @AV.one.eq_4⟩, ⟨@AV.one.eq_5, @Go.Value.oneCell'.eq_1⟩⟩⟩, ⟨⟨@Go.Value.oneCell'.eq_2, ⟨@Go.Value.oneCell'.eq_3, @Go.Value.cells.eq_1⟩⟩, ⟨⟨@Go.Value.cells.eq_2, @nrm.eq_1⟩, ⟨@nrm.eq_2, @nrm.eq_3⟩⟩⟩⟩⟩, ⟨⟨⟨⟨@nrm.eq_4, ⟨@nrm.eq_5, @nrm.eq_6⟩⟩, ⟨⟨@nrm.eq_7, @nrm.nrmL.eq_1⟩, ⟨@nrm.nrmL.eq_2, @hpAt.eq_1⟩⟩⟩, ⟨⟨@hpAt.eq_2, ⟨@AV.ren.eq_1, @AV.ren.eq_2⟩⟩, ⟨⟨@AV.ren.eq_3, @AV.ren.eq_4⟩, ⟨@AV.ren.eq_5, @AV.ren.eq_6⟩⟩⟩⟩, ⟨⟨⟨@AV.ren.eq_7, ⟨@AV.ren.eq_8, @AV.ren.eq_9⟩⟩, ⟨⟨@AV.ren.eq_10, @AV.ren.eq_11⟩, ⟨@AV.ren.renL.eq_1, @AV.ren.renL.eq_2⟩⟩⟩, ⟨⟨@Blk.ren.eq_1, ⟨@Blk.ren.eq_2, @footO.eq_1⟩⟩, ⟨⟨@footO.eq_2, @blkIds.eq_1⟩, ⟨@blkIds.eq_2, @blkIds.eq_3⟩⟩⟩⟩⟩⟩, ⟨⟨⟨⟨⟨@blkIds.eq_4, ⟨@AV.ids.eq_1, @AV.ids.eq_2⟩⟩, ⟨@AV.ids.eq_3, ⟨@AV.ids.eq_4, @AV.ids.eq_5⟩⟩⟩, ⟨⟨@AV.ids.eq_6, ⟨@AV.ids.eq_7, @AV.ids.idsL.eq_1⟩⟩, ⟨⟨@AV.ids.idsL.eq_2, @Go.Op.operands.eq_1⟩, ⟨@Go.Op.operands.eq_2, @Go.Op.operands.eq_3⟩⟩⟩⟩, ⟨⟨⟨@Go.Op.operands.eq_4, ⟨@Go.Op.operands.eq_5, @Go.Op.operands.eq_6⟩⟩, ⟨⟨@Go.Op.operands.eq_7, @Go.Op.operands.eq_8⟩, ⟨@Go.Op.operands.eq_9, @Go.Op.operands.eq_10⟩⟩⟩, ⟨⟨@Go.Op.operands.eq_11, ⟨@Go.Op.operands.eq_12, @Go.Op.operands.eq_13⟩⟩, ⟨⟨@Go.Op.operands.eq_14, @Go.Op.operands.eq_15⟩, ⟨@Go.Op.operands.eq_16, @Go.Op.operands.eq_17⟩⟩⟩⟩⟩, ⟨⟨⟨⟨@Go.Op.operands.eq_18, ⟨@Go.Op.operands.eq_19, @Go.Op.operands.eq_20⟩⟩, ⟨⟨@Go.Op.operands.eq_21, @Go.Op.operands.eq_22⟩, ⟨@Go.Op.operands.eq_23, @Go.Op.operands.eq_24⟩⟩⟩, ⟨⟨@Go.Op.operands.eq_25, ⟨@Go.Op.operands.eq_26, @Go.Op.operands.eq_27⟩⟩, ⟨⟨@Go.Op.operands.eq_28, @Go.Op.operands.eq_29⟩, ⟨@Go.Op.operands.eq_30, @Go.Op.operands.eq_31⟩⟩⟩⟩, ⟨⟨⟨@Go.Op.operands.eq_32, ⟨@Go.Op.operands.eq_33, @Go.Op.operands.eq_34⟩⟩, ⟨⟨@Go.Op.operands.eq_35, @Go.Op.operands.eq_36⟩, ⟨@Go.Op.operands.eq_37, @Go.Op.operands.eq_38⟩⟩⟩, ⟨⟨@Go.Op.operands.eq_39, ⟨@Go.Op.operands.eq_40, @Go.Op.operands.eq_41⟩⟩, ⟨⟨@Go.Op.operands.eq_42, @Go.Op.operands.eq_43⟩, ⟨@List.replicate.eq_1.{0}, @List.replicate.eq_2.{0}⟩⟩⟩⟩⟩⟩⟩⟩⟩
end Go.Proofs.Ytikcpbgnmdhilaa
