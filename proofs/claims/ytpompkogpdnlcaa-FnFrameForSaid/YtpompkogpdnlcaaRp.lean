import Derived.Test.YtpompkogpdnlcaaRo
namespace Go.Proofs.Ytpompkogpdnlcaa
open Go.RowKit

section
variable {P : Program} {L L' : Nat → Blk}

def Agree (L L' : Nat → Blk) (ids : List Nat) : Prop := ∀ r ∈ ids, L' r = L r

theorem idsL_cons (c : AV) (cs : List AV) : AV.ids.idsL (c :: cs) = c.ids ++ AV.ids.idsL cs := by rw [AV.ids.idsL]
theorem ids_cells (x : AV) : ∀ r ∈ AV.ids.idsL x.cells, r ∈ x.ids := by
  cases x with
  | agg cs => intro r hr; simpa [AV.cells, AV.ids] using hr
  | _ => intro r hr; simp only [AV.cells, idsL_cons, AV.ids.idsL, List.append_nil] at hr; exact hr

theorem rowsOf_near {x : AV} (h : Agree L L' x.ids) : rowsOf L' x = rowsOf L x := by
  cases x with
  | own r => simp only [rowsOf]; rw [h r (by simp [AV.ids])]
  | sub r lo hi => simp only [rowsOf]; rw [h r (by simp [AV.ids])]
  | _ => rfl
theorem lenOf_near {x : AV} (h : Agree L L' x.ids) : lenOf L' x = lenOf L x := by
  cases x with
  | own r => simp only [lenOf]; rw [h r (by simp [AV.ids])]
  | sub r lo hi => simp only [lenOf]; rw [h r (by simp [AV.ids])]
  | _ => rfl
theorem oLoad_near {T : TypeId} {x : AV} (h : Agree L L' x.ids) : oLoad P L' T x = oLoad P L T x := by
  cases x with
  | ptr r off => simp only [oLoad]; rw [h r (by simp [AV.ids])]
  | eptr r i j => simp only [oLoad]; rw [h r (by simp [AV.ids])]
  | _ => rfl
theorem frz_near {xs : List AV} (h : Agree L L' (AV.ids.idsL xs)) : frz L' xs = frz L xs := by
  induction xs with
  | nil => rfl
  | cons x xs ih =>
    have h2 : Agree L L' (AV.ids.idsL xs) := fun r hr => h r (by rw [idsL_cons]; exact List.mem_append_right _ hr)
    have h1 : Agree L L' x.ids := fun r hr => h r (by rw [idsL_cons]; exact List.mem_append_left _ hr)
    cases x with
    | own r => simp only [frz]; rw [h1 r (by simp [AV.ids]), ih h2]
    | sub r lo hi => simp only [frz]; rw [h1 r (by simp [AV.ids]), ih h2]
    | _ => simp only [frz]; exact ih h2
theorem ups_at {l : List (Nat × Blk)} {r : Nat} : ∀ {L L' : Nat → Blk}, L' r = L r → ups L' l r = ups L l r := by
  induction l with
  | nil => intro L L' h; exact h
  | cons p l ih =>
    intro L L' h
    simp only [ups]
    refine ih ?_
    by_cases e : r = p.1
    · subst e; rw [up_same, up_same]
    · rw [up_ne _ _ e, up_ne _ _ e, h]
theorem dk_near {k : CK} {x : AV} (h : Agree L L' x.ids) : dk L' k x = dk L k x := by
  cases x with
  | own r => cases k <;> simp only [dk] <;> rw [h r (by simp [AV.ids])]
  | sub r lo hi => cases k <;> simp only [dk] <;> rw [h r (by simp [AV.ids])]
  | _ => cases k <;> rfl
theorem dks_near {ks : List CK} {xs : List AV} (h : Agree L L' (AV.ids.idsL xs)) : dks L' ks xs = dks L ks xs := by
  induction ks generalizing xs with
  | nil => cases xs <;> rfl
  | cons k ks ih =>
    cases xs with
    | nil => rfl
    | cons x xs =>
      simp only [dks]
      rw [dk_near (fun r hr => h r (by rw [idsL_cons]; exact List.mem_append_left _ hr)), ih (fun r hr => h r (by rw [idsL_cons]; exact List.mem_append_right _ hr))]
theorem dkRows_near {ks : List CK} {rows : List (List AV)} (h : Agree L L' (AV.ids.idsL rows.flatten)) : dkRows L' ks rows = dkRows L ks rows := by
  induction rows with
  | nil => rfl
  | cons r rows ih =>
    have e : ∀ (a b : List AV), AV.ids.idsL (a ++ b) = AV.ids.idsL a ++ AV.ids.idsL b := by
      intro a b
      induction a with
      | nil => simp [AV.ids.idsL]
      | cons x a ih => rw [List.cons_append, idsL_cons, idsL_cons, ih, List.append_assoc]
    have h' : Agree L L' (AV.ids.idsL r ++ AV.ids.idsL rows.flatten) := by rw [← e]; simpa using h
    simp only [dkRows]
    rw [dks_near (fun k hk => h' k (List.mem_append_left _ hk)), ih (fun k hk => h' k (List.mem_append_right _ hk))]
theorem agree_ups {l : List (Nat × Blk)} {ids : List Nat} (h : Agree L L' ids) : Agree (ups L l) (ups L' l) ids := fun r hr => ups_at (h r hr)
theorem oStore_near {T : TypeId} {a p : AV} (ha : Agree L L' a.ids) (hp : Agree L L' p.ids) : oStore P L' T a p = oStore P L T a p := by
  have hc : Agree L L' (AV.ids.idsL a.cells) := fun r hr => ha r (ids_cells a r hr)
  cases p with
  | ptr r off => simp only [oStore]; rw [hp r (by simp [AV.ids])]
  | eptr r i j => simp only [oStore]; rw [frz_near hc, agree_ups hp r (by simp [AV.ids]), dks_near (agree_ups hc)]
  | _ => rfl
theorem oIndexAddr_near {T : TypeId} {x i : AV} (h : Agree L L' x.ids) : oIndexAddr P L' T x i = oIndexAddr P L T x i := by
  unfold oIndexAddr
  split
  · cases x with
    | own r => simp only; rw [h r (by simp [AV.ids])]
    | sub r lo hi => simp only; rw [h r (by simp [AV.ids])]
    | _ => rfl
  · rfl
theorem oFieldAddr_near {T : TypeId} {x : AV} {f : Nat} (h : Agree L L' x.ids) : oFieldAddr P L' T x f = oFieldAddr P L T x f := by
  unfold oFieldAddr
  split
  · split
    · rfl
    · cases x with
      | ptr r off => simp only; rw [h r (by simp [AV.ids])]
      | eptr r i j => simp only; rw [h r (by simp [AV.ids])]
      | _ => rfl
  · rfl
theorem oSlice_near {T : TypeId} {x : AV} {lo hi : Option AV} (h : Agree L L' x.ids) : oSlice P L' T x lo hi = oSlice P L T x lo hi := by
  unfold oSlice
  split
  · cases x with
    | own r => simp only; rw [h r (by simp [AV.ids])]
    | _ => rfl
  · rfl
theorem oLen_near {T : TypeId} {x : AV} (h : Agree L L' x.ids) : oLen P L' T x = oLen P L T x := by
  unfold oLen
  split
  · rw [lenOf_near h]
  · rfl
  · rfl
theorem oConvert_near {a b : TypeId} {x : AV} (h : Agree L L' x.ids) : oConvert P L' a b x = oConvert P L a b x := by
  unfold oConvert
  split
  · rfl
  · rw [rowsOf_near h]
  · rfl
theorem oAppend_near {T : TypeId} {x y : AV} {q : Nat} (hx : Agree L L' x.ids) (hy : Agree L L' y.ids) : oAppend P L' T x y q = oAppend P L T x y q := by
  unfold oAppend
  split
  · rw [rowsOf_near hy]
    split
    · split
      · cases x with
        | own r => simp only; rw [hx r (by simp [AV.ids])]
        | _ => rfl
      · rfl
    · rfl
  · rfl

/-- the cells of a slice's text come from its parts -/
theorem fillR_ids {sz : Nat} : ∀ {ps : List (Nat × AV)} {rows rows' : List (List AV)} {ids : List Nat}, fillR sz rows ps = some rows' → (∀ r ∈ AV.ids.idsL rows.flatten, r ∈ ids) → (∀ p ∈ ps, ∀ r ∈ p.2.ids, r ∈ ids) → ∀ r ∈ AV.ids.idsL rows'.flatten, r ∈ ids := by
  have mem : ∀ (l : List AV) (r : Nat), r ∈ AV.ids.idsL l ↔ ∃ x ∈ l, r ∈ x.ids := by
    intro l r
    induction l with
    | nil => simp [AV.ids.idsL]
    | cons x l ih => rw [idsL_cons, List.mem_append, ih]; simp
  intro ps
  induction ps with
  | nil => intro rows rows' ids h h1 _; simp [fillR] at h; subst h; exact h1
  | cons p ps ih =>
    obtain ⟨i, a⟩ := p
    intro rows rows' ids h h1 h2
    simp only [fillR] at h
    split at h
    · refine ih h (fun r hr => ?_) (fun p hp => h2 p (by simp [hp]))
      rw [mem] at hr
      obtain ⟨x, hx, hr⟩ := hr
      obtain ⟨row, hrow, hx⟩ := List.mem_flatten.1 hx
      rcases List.mem_or_eq_of_mem_set hrow with hm | rfl
      · exact h1 r ((mem _ _).2 ⟨x, List.mem_flatten.2 ⟨row, hm, hx⟩, hr⟩)
      · exact h2 (i, a) (by simp) r (ids_cells a r ((mem _ _).2 ⟨x, hx, hr⟩))
    · cases h
theorem oBuildSlice_near {T : TypeId} {n q : Nat} {ps : List (Nat × AV)} (h : ∀ p ∈ ps, Agree L L' p.2.ids) : oBuildSlice P L' T n ps q = oBuildSlice P L T n ps q := by
  have none_ : ∀ (l : List AV), (∀ x ∈ l, x.ids = []) → AV.ids.idsL l = [] := by
    intro l hl
    induction l with
    | nil => rfl
    | cons x l ih => rw [idsL_cons, hl x (by simp), ih fun y hy => hl y (by simp [hy])]; rfl
  have zeros : ∀ n (l : List Value), AV.ids.idsL (List.replicate n (l.map AV.v)).flatten = [] := by
    intro n l
    refine none_ _ fun x hx => ?_
    obtain ⟨r, hr, hx⟩ := List.mem_flatten.1 hx
    obtain ⟨_, rfl⟩ := List.mem_replicate.1 hr
    obtain ⟨v, _, rfl⟩ := List.mem_map.1 hx
    rfl
  unfold oBuildSlice
  split
  · split
    · split
      · split
        · rename_i rows hf
          have hag : Agree L L' (AV.ids.idsL rows.flatten) := fun r hr => by
            have := fillR_ids (ids := ps.flatMap fun p => p.2.ids) hf (fun r hr => by rw [zeros] at hr; simp at hr) (fun p hp r hr => List.mem_flatMap.2 ⟨p, hp, hr⟩) r hr
            obtain ⟨p, hp, hr⟩ := List.mem_flatMap.1 this
            exact h p hp r hr
          rw [frz_near hag, dkRows_near (agree_ups hag)]
        · rfl
      · rfl
    · rfl
  · rfl

theorem oOp_near {G : List (FuncId × Abs)} (hG : ∀ p ∈ G, CallOk P p.1 p.2) {o : Op} {ev : Operand → AV} {q : Nat} (h : Agree L L' (foot L (o.operands.toList.map ev))) : oOp P G o ev L' q = oOp P G o ev L q := by
  have mem : ∀ (l : List AV) (r : Nat), r ∈ AV.ids.idsL l ↔ ∃ x ∈ l, r ∈ x.ids := by
    intro l r
    induction l with
    | nil => simp [AV.ids.idsL]
    | cons x l ih => rw [idsL_cons, List.mem_append, ih]; simp
  have hx : ∀ x ∈ o.operands.toList, Agree L L' (ev x).ids := fun x hx r hr => h r (List.mem_flatMap.2 ⟨r, (mem _ _).2 ⟨ev x, List.mem_map.2 ⟨x, hx, rfl⟩, hr⟩, by simp⟩)
  cases o <;> try rfl
  case buildSlice T n ps =>
    refine oBuildSlice_near fun p hp => ?_
    obtain ⟨p', hp', rfl⟩ := List.mem_map.1 hp
    exact hx p'.2 (by simp only [Op.operands]; simp; exact ⟨p'.1, by simpa using hp'⟩)
  case load T x => exact oLoad_near (hx x (by simp [Op.operands]))
  case store T x y =>
    simp only [oOp]
    rw [oStore_near (hx y (by simp [Op.operands])) (hx x (by simp [Op.operands]))]
  case convert a b x => exact oConvert_near (hx x (by simp [Op.operands]))
  case slice T x lo hi mx =>
    cases mx with
    | none => exact oSlice_near (hx x (by simp [Op.operands]))
    | some m => rfl
  case fieldAddr T x f => exact oFieldAddr_near (hx x (by simp [Op.operands]))
  case indexAddr T x i => exact oIndexAddr_near (hx x (by simp [Op.operands]))
  case nilCheck x =>
    simp only [oOp, oNil]
    have k := hx x (by simp [Op.operands])
    split
    · rename_i r off e; rw [k r (by rw [e]; simp [AV.ids])]
    · rename_i r i j e; rw [k r (by rw [e]; simp [AV.ids])]
    · rfl
    · rfl
    · rfl
  case call c =>
    obtain ⟨callee, args, argTypes⟩ := c
    simp only [oOp]
    split
    · rename_i f
      split
      · rename_i p hp
        refine (hG p (List.mem_of_find?_eq_some hp)).near L L' _ q fun r hr => h r ?_
        obtain ⟨r', h1, h2⟩ := List.mem_flatMap.1 hr
        refine List.mem_flatMap.2 ⟨r', ?_, h2⟩
        rw [mem] at h1 ⊢
        obtain ⟨x, hx, hr⟩ := h1
        exact ⟨x, by simp only [Op.operands, Call.operands]; simp at hx ⊢; exact .inr hx, hr⟩
      · rfl
    · split
      · rename_i x T e1 e2
        exact oLen_near (hx x (by simp only [Op.operands, Call.operands]; simp; rw [← Array.mem_toList_iff, e1]; simp))
      · rfl
    · split
      · rename_i x y T T' e1 e2
        split
        · exact oAppend_near (hx x (by simp only [Op.operands, Call.operands]; simp; rw [← Array.mem_toList_iff, e1]; simp)) (hx y (by simp only [Op.operands, Call.operands]; simp; rw [← Array.mem_toList_iff, e1]; simp))
        · rfl
      · rfl
    · rfl

theorem oOp_congr {G : List (FuncId × Abs)} {o : Op} {ev ev' : Operand → AV} {q : Nat} (h : ∀ x ∈ o.operands, ev' x = ev x) : oOp P G o ev' L q = oOp P G o ev L q := by
  cases o <;> simp only [Op.operands] at h <;> simp only [oOp] <;> try (simp_all; done)
  case build t ps =>
    congr 1
    exact List.map_congr_left fun p hp => by rw [h p.2 (by simp; exact ⟨p.1, by simpa using hp⟩)]
  case buildSlice t n ps =>
    congr 1
    exact List.map_congr_left fun p hp => by rw [h p.2 (by simp; exact ⟨p.1, by simpa using hp⟩)]
  case slice T x lo hi mx => cases lo <;> cases hi <;> cases mx <;> simp_all
  case call c =>
    obtain ⟨callee, args, argTypes⟩ := c
    simp only [Call.operands] at h
    dsimp only
    have hargs : args.toList.map ev' = args.toList.map ev := List.map_congr_left fun x hx => h x (by simp at hx ⊢; exact .inr hx)
    split
    · rw [hargs]
    · split
      · rename_i x T e1 e2
        have e1' : args.toList = [x] := e1
        rw [h x (by simp only [Array.mem_append]; right; rw [← Array.mem_toList_iff, e1']; simp)]
      · rfl
    · split
      · rename_i x y T T' e1 e2
        have e1' : args.toList = [x, y] := e1
        rw [h x (by simp only [Array.mem_append]; right; rw [← Array.mem_toList_iff, e1']; simp), h y (by simp only [Array.mem_append]; right; rw [← Array.mem_toList_iff, e1']; simp)]
      · rfl
    · rfl
end
end Go.Proofs.Ytpompkogpdnlcaa
