import Derived.Test.YthbcoakimbpkgaaR4
namespace Go.Proofs.Ythbcoakimbpkgaa
open Go.RowKit
def leafs : AV → List AV
  | .own r => [.own r]
  | .sub r lo hi => [.sub r lo hi]
  | .agg cs => leafsL cs
  | _ => []
where leafsL : List AV → List AV
  | [] => []
  | c :: cs => leafs c ++ leafsL cs
def ocOf (g : PC) : OC := fun args B0 => match B0 with
  | [] => match g args with
    | some (c, r, bs) => some (c, r, [], bs)
    | none => none
  | _ => none
def frzAbs (g : PC) : Abs := fun args L q => match g (args.map (nrm L)) with
  | some (c, r, bs) => if bs.length ≤ 16 then some ⟨c, r.ren (sh q), frz L (leafs.leafsL args) ++ hpAt q bs⟩ else none
  | none => none
section
variable {P : Program} {w : World} {Z : Nat → Prop} {L : Nat → Blk} {s : Nat → Value} {F : Nat → Prop} {W0 : Ent}
theorem leafsL_map : ∀ cs : List AV, leafs.leafsL cs = cs.flatMap leafs
  | [] => rfl
  | c :: cs => by rw [leafs.leafsL, leafsL_map cs]; rfl
theorem slB_cases {B : Blk} {sz : Nat} {rows : List (List D)} (h : slB B = some (sz, rows)) : (∃ e, B = .sl e sz rows) ∨ (∃ e cols, B = .tr .whole e sz cols rows) ∨ ∃ e, B = .off e sz rows := by
  unfold slB at h
  split at h
  · cases h; exact .inl ⟨_, rfl⟩
  · cases h; exact .inr (.inl ⟨_, _, rfl⟩)
  · cases h; exact .inr (.inr ⟨_, rfl⟩)
  · cases h
theorem frz_entry : ∀ {xs : List AV} {p : Nat × Blk}, p ∈ frz L xs → p.1 ∈ AV.ids.idsL xs ∧ ∃ sz rows, slB (L p.1) = some (sz, rows) ∧ p.2 = .still sz rows
  | [], p, h => by simp [frz] at h
  | x :: xs, p, h => by
    have rest : p ∈ frz L xs → p.1 ∈ AV.ids.idsL (x :: xs) ∧ ∃ sz rows, slB (L p.1) = some (sz, rows) ∧ p.2 = .still sz rows := fun h => by
      obtain ⟨h1, h2⟩ := frz_entry h
      exact ⟨by rw [AV.ids.idsL]; exact List.mem_append.2 (.inr h1), h2⟩
    cases x with
    | own r =>
      simp only [frz] at h
      split at h
      · rename_i sz rows hL
        rcases List.mem_cons.1 h with rfl | h
        · exact ⟨by simp [AV.ids.idsL, AV.ids], sz, rows, hL, rfl⟩
        · exact rest h
      · exact rest h
    | sub r lo hi =>
      simp only [frz] at h
      split at h
      · rename_i sz rows hL
        rcases List.mem_cons.1 h with rfl | h
        · exact ⟨by simp [AV.ids.idsL, AV.ids], sz, rows, hL, rfl⟩
        · exact rest h
      · exact rest h
    | _ => exact rest h
theorem frz_has : ∀ {xs : List AV} {r : Nat} {sz : Nat} {rows : List (List D)}, slB (L r) = some (sz, rows) → (.own r ∈ xs ∨ ∃ lo hi, .sub r lo hi ∈ xs) → (r, .still sz rows) ∈ frz L xs
  | [], r, sz, rows, _, h => by simp at h
  | x :: xs, r, sz, rows, hL, h => by
    by_cases hx : .own r ∈ xs ∨ ∃ lo hi, .sub r lo hi ∈ xs
    · have := frz_has hL hx
      cases x with
      | own k => simp only [frz]; split <;> simp [this]
      | sub k lo hi => simp only [frz]; split <;> simp [this]
      | _ => exact this
    · have hx' : x = .own r ∨ ∃ lo hi, x = .sub r lo hi := by
        rcases h with h | ⟨lo, hi, h⟩
        · rcases List.mem_cons.1 h with h | h
          · exact .inl h.symm
          · exact absurd (.inl h) hx
        · rcases List.mem_cons.1 h with h | h
          · exact .inr ⟨lo, hi, h.symm⟩
          · exact absurd (.inr ⟨lo, hi, h⟩) hx
      rcases hx' with rfl | ⟨lo, hi, rfl⟩
      · simp only [frz, hL]; simp
      · simp only [frz, hL]; simp
theorem ups_all {b : Blk} {r : Nat} : ∀ {l : List (Nat × Blk)} {L : Nat → Blk}, (∀ p ∈ l, p.1 = r → p.2 = b) → ((∃ p ∈ l, p.1 = r) ∨ L r = b) → ups L l r = b
  | [], L, _, h => by
    rcases h with ⟨p, hp, _⟩ | h
    · simp at hp
    · exact h
  | p :: l, L, ha, h => by
    simp only [ups]
    refine ups_all (fun p' hp' => ha p' (List.mem_cons_of_mem _ hp')) ?_
    by_cases hl : ∃ p' ∈ l, p'.1 = r
    · exact .inl hl
    · right
      by_cases hp : p.1 = r
      · rw [hp, up_same]; exact ha p (by simp) hp
      · rw [up_ne _ _ (fun e => hp e.symm)]
        rcases h with ⟨p', hp', e⟩ | h
        · rcases List.mem_cons.1 hp' with rfl | hp'
          · exact absurd e hp
          · exact absurd ⟨p', hp', e⟩ hl
        · exact h
theorem frz_gone {xs : List AV} {r : Nat} (h : .own r ∈ xs ∨ ∃ lo hi, .sub r lo hi ∈ xs) : slB (ups L (frz L xs) r) = none := by
  cases hL : slB (L r) with
  | some y =>
    obtain ⟨sz', rows'⟩ := y
    have := ups_all (L := L) (b := .still sz' rows') (r := r) (l := frz L xs) (fun p hp hr => by
      obtain ⟨_, sz2, rows2, h1, h2⟩ := frz_entry hp
      rw [hr, hL] at h1
      cases h1
      exact h2) (.inl ⟨_, frz_has hL h, rfl⟩)
    rw [this]
    rfl
  | none =>
    have : ups L (frz L xs) r = L r := by
      refine ups_all (fun p hp hr => ?_) (.inr rfl)
      obtain ⟨_, sz2, rows2, h1, h2⟩ := frz_entry hp
      rw [hr, hL] at h1
      cases h1
    rw [this]
    exact hL
theorem nrm_froze {L L' : Nat → Blk} (hF : Froze L L') : ∀ (n : Nat) (a : AV), SizeOf.sizeOf a ≤ n → nrm L' a = nrm L a := by
  intro n
  induction n with
  | zero => intro a ha; cases a <;> simp at ha <;> omega
  | succ n ih =>
    intro a ha
    cases a with
    | own r =>
      simp only [nrm]
      rcases hF r with h | ⟨sz, rows, h1, h2⟩
      · rw [h]
      · rcases slB_cases h1 with ⟨e, h1⟩ | ⟨e, cols, h1⟩ | ⟨e, h1⟩ <;> rw [h1, h2]
    | sub r lo hi =>
      simp only [nrm]
      rcases hF r with h | ⟨sz, rows, h1, h2⟩
      · rw [h]
      · rcases slB_cases h1 with ⟨e, h1⟩ | ⟨e, cols, h1⟩ | ⟨e, h1⟩ <;> rw [h1, h2]
    | agg cs =>
      simp only [nrm, nrmL_map]
      congr 1
      exact List.map_congr_left fun c hc => ih c (by have := List.sizeOf_lt_of_mem hc; simp at ha; omega)
    | _ => rfl
theorem nrm_still (h : HR F W0 w L s Z) {a : AV} {x : Value} (hx : AVR w Z L s a x) : (∀ r, (.own r ∈ leafs a ∨ ∃ lo hi, .sub r lo hi ∈ leafs a) → slB (L r) = none) → AVR w Z (fun _ => .none) (fun _ => nilS) (nrm L a) x := by
  have st : ∀ r sz rows, L r = .still sz rows → Rep w Z (.l sz rows) (s r) := fun r sz rows hL => by
    have := h.blk r
    rw [hL] at this
    exact this
  induction hx with
  | any x => intro _; exact .any x
  | mute x h => intro _; exact .mute x h
  | v x =>
    intro _
    simp only [nrm]
    split
    · rename_i hn; rw [nilV_eq hn]; exact .l _ _ _ (.e _ _ _)
    · exact .v x
  | l sz rows x h => intro _; exact .l _ _ _ h
  | own r x e sz rows hL hx hn => intro hg; have := hg r (.inl (by simp [leafs])); rw [hL] at this; cases this
  | ownOff r x e sz rows hL hx hn => intro hg; have := hg r (.inl (by simp [leafs])); rw [hL] at this; cases this
  | ownTr r x st e sz cols rows hL hx hn =>
    intro hg
    have := hg r (.inl (by simp [leafs]))
    rw [hL] at this
    cases st with
    | whole => cases this
    | _ => simp only [nrm, hL]; exact .any x
  | subOff r lo hi x e sz rows hL h1 h2 A n c hx hn hc hA => intro hg; have := hg r (.inr ⟨lo, hi, by simp [leafs]⟩); rw [hL] at this; cases this
  | subTr r lo hi x st e sz cols rows hL h1 h2 A n c hx hn hc hA =>
    intro hg
    have := hg r (.inr ⟨lo, hi, by simp [leafs]⟩)
    rw [hL] at this
    cases st with
    | whole => cases this
    | _ => simp only [nrm, hL]; exact .any x
  | ownStill r x sz rows hL hx ho => intro _; simp only [nrm, hL]; rw [hx]; exact .l _ _ _ (st r sz rows hL)
  | ownDead r x hL ho => intro _; simp only [nrm, hL]; exact .mute x ho
  | sub r lo hi x e sz rows hL h1 h2 A n c hx hn hc hA => intro hg; have := hg r (.inr ⟨lo, hi, by simp [leafs]⟩); rw [hL] at this; cases this
  | subStill r lo hi x sz rows hL h1 h2 hx => intro _; simp only [nrm, hL]; exact .l _ _ _ hx
  | subDead r lo hi x hL ho => intro _; simp only [nrm, hL]; exact .any x
  | agg cs vs hl _ ih =>
    intro hg
    simp only [nrm]
    rw [nrmL_map]
    refine .agg _ vs (by simp [hl]) fun i a b ha hb => ?_
    rw [List.getElem?_map] at ha
    cases hc : cs[i]? with
    | none => simp [hc] at ha
    | some c =>
      simp [hc] at ha; subst ha
      refine ih i c b hc hb fun r hr => hg r ?_
      simp only [leafs, leafsL_map]
      have hm := List.mem_of_getElem? hc
      rcases hr with hr | ⟨lo, hi, hr⟩
      · exact .inl (List.mem_flatMap.2 ⟨c, hm, hr⟩)
      · exact .inr ⟨lo, hi, List.mem_flatMap.2 ⟨c, hm, hr⟩⟩
  | _ => intro _; exact .any _
end
end Go.Proofs.Ythbcoakimbpkgaa
