import Derived.Test.YtkfjaeoehhakpaaR2
import Derived.Orders
set_option linter.unusedVariables false
set_option linter.unusedSimpArgs false
namespace Go.Proofs.Ytkfjaeoehhakpaa
open Go.RowKit
set_option linter.unusedSimpArgs false
def guardA (ops : Array Oper) (tm : List AV) : Option (Nat × Bool) → Option Bool
  | none => some true
  | some (j, want) => match (ops[j]?).bind (·.dst) with
    | none => some false
    | some t => match tm.getD t (.v undef) with
      | .v (.bool b) => some (b == want)
      | .v (.tuple _) => some false
      | _ => none
def stepA (P : Program) (G : List (FuncId × Abs)) (ops : Array Oper) (o : Oper) (tm : List AV) (L : Nat → Blk) (q : Nat) : Option Out :=
  match guardA ops tm o.guard with
  | none => none
  | some false => some ⟨True, .v undef, []⟩
  | some true => match o.op with
    | .pick c x y => match evA tm c with
      | .v (.bool b) => some ⟨True, if b then evA tm x else evA tm y, []⟩
      | _ => none
    | op => oOp P G op (evA tm) L q
section
variable {P : Program} {w : World} {Z : Nat → Prop} {L : Nat → Blk} {s : Nat → Value} {F : Nat → Prop} {W0 : Ent}
theorem TR.get {tm : List AV} {a : Act} (h : TR w Z L s tm a) {t : Nat} {x : AV} (hx : tm[t]? = some x) : ∃ y, a.tmps[t]? = some y ∧ AVR w Z L s x y := by
  have ht := (List.getElem?_eq_some_iff.1 hx).1
  have h2 : a.tmps[t]? = some (a.tmps[t]'(by rw [h.len]; exact ht)) := Array.getElem?_eq_getElem (by rw [h.len]; exact ht)
  exact ⟨_, h2, h.rel t _ _ hx h2⟩
theorem guardA_ok {ops : Array Oper} {tm : List AV} {a : Act} (h : TR w Z L s tm a) {o : Oper} {g : Bool} (hg : guardA ops tm o.guard = some g) : Region.wanted o (yielded ops a.tmps) = g := by
  unfold guardA at hg
  unfold Region.wanted
  split at hg
  · rename_i hgd
    rw [hgd]
    simpa using hg
  · rename_i j want hgd
    rw [hgd]
    simp only [yielded]
    split at hg
    · rename_i hd
      rw [hd]
      simp at hg ⊢
      exact hg
    · rename_i t hd
      rw [hd]
      simp only [Option.bind_some]
      by_cases ht : t < tm.length
      · obtain ⟨y, hy, hr⟩ := h.get (List.getElem?_eq_getElem ht)
        rw [hy]
        have e : tm.getD t (.v undef) = tm[t] := by simp [List.getD, List.getElem?_eq_getElem ht]
        rw [e] at hg
        generalize tm[t] = x at hr hg
        split at hg
        · cases hr
          simpa using hg
        · cases hr
          simp at hg ⊢
          exact hg
        · cases hg
      · have e : tm.getD t (.v undef) = .v undef := by simp [List.getD, List.getElem?_eq_none (Nat.le_of_not_lt ht)]
        have e2 : a.tmps[t]? = none := Array.getElem?_eq_none (by rw [h.len]; exact Nat.le_of_not_lt ht)
        rw [e] at hg
        rw [e2]
        simp [undef] at hg ⊢
        exact hg
theorem stepA_ok {G : List (FuncId × Abs)} (hG : ∀ p ∈ G, CallOk P p.1 p.2) (h : HR F W0 w L s Z) {tm : List AV} {a : Act} (ht : TR w Z L s tm a) {q : Nat} (hq : ∀ k, q ≤ k → k < q + 16 → L k = .none)
    {ops : Array Oper} {i : Nat} {o : Oper} (hi : ops[i]? = some o) {out : Out} (ho : stepA P G ops o tm L q = some out) (hc : out.c) {K : Act → World → Prop} {Q : Exit → Act → World → Prop}
    (hK : ∀ v w' s' Z', HR F W0 w' (ups L out.ups) s' Z' → Ext w Z L s w' Z' (ups L out.ups) s' → AVR w' Z' (ups L out.ups) s' out.dst v → K (a.put o.dst v) w') : wpOp P ops Q i K a w := by
  unfold wpOp
  rw [hi]
  simp only
  unfold stepA at ho
  split at ho
  · cases ho
  · rename_i hg
    rw [guardA_ok ht hg]
    simp at ho; subst ho
    exact hK undef w s Z h (Ext.refl _ _ _ _) (.v _)
  · rename_i hg
    rw [guardA_ok ht hg]
    refine .inl ?_
    split at ho
    · rename_i c x y hop
      split at ho
      · rename_i b hb
        simp at ho; subst ho
        refine pure_stays (L := L) h ⟨if b then a.eval x else a.eval y, ?_, ?_, rfl⟩ hK
        · have := ht.eval c
          rw [hb] at this
          cases hcv : a.eval c with
          | bool b' =>
            rw [hcv] at this
            cases this
            simp [execOp, hop, hcv, asBool]
          | _ => rw [hcv] at this; cases this
        · cases b
          · exact ht.eval y
          · exact ht.eval x
      · cases ho
    · exact oOp_ok hG h ht hq ho hc K Q hK
end
def SeqA (P : Program) (G : List (FuncId × Abs)) (ops : Array Oper) (q0 : Nat) : List Oper → Nat → List AV → (Nat → Blk) → (List AV → (Nat → Blk) → Prop) → Prop
  | [], _, tm, L, K => K tm L
  | o :: rest, k, tm, L, K => ∃ out, stepA P G ops o tm L (q0 + 16 * k) = some out ∧ out.c ∧ (out.ups.all fun p => decide (p.1 < q0 + 16 * (k + 1))) = true ∧ SeqA P G ops q0 rest (k + 1) (putT tm o.dst out.dst) (ups L out.ups) K
theorem ups_ge {l : List (Nat × Blk)} {n : Nat} (h : (l.all fun p => decide (p.1 < n)) = true) : ∀ {L : Nat → Blk} {k : Nat}, n ≤ k → ups L l k = L k := by
  induction l with
  | nil => intro L k _; rfl
  | cons p l ih =>
    intro L k hk
    simp only [List.all_cons, Bool.and_eq_true, decide_eq_true_eq] at h
    rw [ups, ih h.2 hk, up_ne]
    omega
section
variable {P : Program} {F : Nat → Prop} {W0 : Ent} {S : List (Nat × Value)}
def Kp (S : List (Nat × Value)) (L : Nat → Blk) (s : Nat → Value) : Prop := ∀ p ∈ S, L p.1 ≠ .none ∧ (L p.1 = .dead ∨ s p.1 = p.2)
theorem Kp.ext {S : List (Nat × Value)} {w w' : World} {Z Z' : Nat → Prop} {L L' : Nat → Blk} {s s' : Nat → Value} (h : Kp S L s) (E : Ext w Z L s w' Z' L' s') : Kp S L' s' := fun p hp => by
  obtain ⟨h1, h2⟩ := h p hp
  rcases E.l p.1 with k | k | ⟨_, _, _, k, k', hx⟩ | ⟨_, _, _, _, k, k', _, hx⟩ | ⟨_, _, _, _, k, k', _, hx⟩ | ⟨_, _, k, k', hx⟩ | ⟨_, _, _, _, _, _, k, ⟨_, k'⟩ | k', _, hx⟩ | ⟨_, _, _, k, k' | k', hx⟩
  · exact absurd k h1
  · exact ⟨by rw [k]; simp, .inl k⟩
  all_goals
    refine ⟨by rw [k']; simp, .inr ?_⟩
    rcases h2 with h2 | h2
    · rw [k] at h2; cases h2
    · rw [hx, h2]
def Both (S : List (Nat × Value)) (F : Nat → Prop) (W0 : Ent) (tm : List AV) (L : Nat → Blk) (n : Nat) (a : Act) (w : World) : Prop :=
  ∃ s Z, HR F W0 w L s Z ∧ TR w Z L s tm a ∧ (∀ k, n ≤ k → L k = .none) ∧ Kp S L s
theorem SeqA.wp {G : List (FuncId × Abs)} (hG : ∀ p ∈ G, CallOk P p.1 p.2) {ops : Array Oper} {q0 : Nat} {K : List AV → (Nat → Blk) → Prop} {Q : Exit → Act → World → Prop}
    (hK : ∀ tm L a w, K tm L → Both S F W0 tm L (q0 + 16 * ops.size) a w → Q .normal a w) :
    ∀ (l : List Oper) (k : Nat) (tm : List AV) (L : Nat → Blk) (a : Act) (w : World), l = ops.toList.drop k → k ≤ ops.size → SeqA P G ops q0 l k tm L K → Both S F W0 tm L (q0 + 16 * k) a w → wpOps P ops Q (List.range' k l.length) a w
  | [], k, tm, L, a, w, hl, hle, h, hB => by
    have hk : ops.size ≤ k := by
      have := congrArg List.length hl
      simp at this
      omega
    obtain ⟨s, Z, h1, h2, h3, h5⟩ := hB
    exact hK tm L a w h ⟨s, Z, h1, h2, fun j hj => h3 j (by omega), h5⟩
  | o :: l, k, tm, L, a, w, hl, hle, h, hB => by
    obtain ⟨s, Z, h1, h2, h3, h5⟩ := hB
    obtain ⟨out, g1, g2, g3, g4⟩ := h
    have hlt : k < ops.size := by
      have := congrArg List.length hl
      simp at this
      omega
    have hi : ops[k]? = some o := by
      have : ops.toList[k]? = some o := by
        have := congrArg List.head? hl
        rw [List.head?_drop] at this
        simpa using this.symm
      simpa using this
    rw [show (o :: l).length = l.length + 1 from rfl, List.range'_succ, wpOps_cons]
    refine stepA_ok hG h1 h2 (fun j hj _ => h3 j hj) hi g1 g2 fun v w' s' Z' k1 k2 k3 => ?_
    refine SeqA.wp hG hK l (k + 1) _ _ _ _ (by rw [← List.drop_drop, ← hl]; rfl) hlt g4 ⟨s', Z', k1, (h2.mono k2).put k3 _, fun j hj => ?_, h5.ext k2⟩
    rw [ups_ge g3 hj]
    exact h3 j (by omega)
end
end Go.Proofs.Ytkfjaeoehhakpaa
namespace Go.Proofs.Ytkfjaeoehhakpaa
open Go.RowKit
section
variable {P : Program} {L L' : Nat → Blk}
def Agree (L L' : Nat → Blk) (ids : List Nat) : Prop := ∀ r ∈ ids, L' r = L r
theorem idsL_cons (c : AV) (cs : List AV) : AV.ids.idsL (c :: cs) = c.ids ++ AV.ids.idsL cs := by rw [AV.ids.idsL]
theorem ids_cells (x : AV) : ∀ r ∈ AV.ids.idsL x.cells, r ∈ x.ids := by
  cases x with
  | agg cs => intro r hr; simpa [AV.cells, AV.ids] using hr
  | _ => intro r hr; simp only [AV.cells, idsL_cons, AV.ids.idsL, List.append_nil] at hr; exact hr
theorem rowsOf_near {x : AV} (h : Agree L L' x.ids) : rowsOf L' x = rowsOf L x := by
  cases x with
  | own r => simp only [rowsOf]; rw [h r (by simp [AV.ids])]
  | sub r lo hi => simp only [rowsOf]; rw [h r (by simp [AV.ids])]
  | _ => rfl
theorem lenOf_near {x : AV} (h : Agree L L' x.ids) : lenOf L' x = lenOf L x := by
  cases x with
  | own r => simp only [lenOf]; rw [h r (by simp [AV.ids])]
  | sub r lo hi => simp only [lenOf]; rw [h r (by simp [AV.ids])]
  | _ => rfl
theorem oLoad_near {T : TypeId} {x : AV} (h : Agree L L' x.ids) : oLoad P L' T x = oLoad P L T x := by
  cases x with
  | ptr r off => simp only [oLoad]; rw [h r (by simp [AV.ids])]
  | eptr r i j => simp only [oLoad]; rw [h r (by simp [AV.ids])]
  | _ => rfl
theorem frz_near {xs : List AV} (h : Agree L L' (AV.ids.idsL xs)) : frz L' xs = frz L xs := by
  induction xs with
  | nil => rfl
  | cons x xs ih =>
    have h2 : Agree L L' (AV.ids.idsL xs) := fun r hr => h r (by rw [idsL_cons]; exact List.mem_append_right _ hr)
    have h1 : Agree L L' x.ids := fun r hr => h r (by rw [idsL_cons]; exact List.mem_append_left _ hr)
    cases x with
    | own r => simp only [frz]; rw [h1 r (by simp [AV.ids]), ih h2]
    | sub r lo hi => simp only [frz]; rw [h1 r (by simp [AV.ids]), ih h2]
    | _ => simp only [frz]; exact ih h2
theorem ups_at {l : List (Nat × Blk)} {r : Nat} : ∀ {L L' : Nat → Blk}, L' r = L r → ups L' l r = ups L l r := by
  induction l with
  | nil => intro L L' h; exact h
  | cons p l ih =>
    intro L L' h
    simp only [ups]
    refine ih ?_
    by_cases e : r = p.1
    · subst e; rw [up_same, up_same]
    · rw [up_ne _ _ e, up_ne _ _ e, h]
theorem dk_near {k : CK} {x : AV} (h : Agree L L' x.ids) : dk L' k x = dk L k x := by
  cases x with
  | own r => cases k <;> simp only [dk] <;> rw [h r (by simp [AV.ids])]
  | sub r lo hi => cases k <;> simp only [dk] <;> rw [h r (by simp [AV.ids])]
  | _ => cases k <;> rfl
theorem dks_near {ks : List CK} {xs : List AV} (h : Agree L L' (AV.ids.idsL xs)) : dks L' ks xs = dks L ks xs := by
  induction ks generalizing xs with
  | nil => cases xs <;> rfl
  | cons k ks ih =>
    cases xs with
    | nil => rfl
    | cons x xs =>
      simp only [dks]
      rw [dk_near (fun r hr => h r (by rw [idsL_cons]; exact List.mem_append_left _ hr)), ih (fun r hr => h r (by rw [idsL_cons]; exact List.mem_append_right _ hr))]
theorem dkRows_near {ks : List CK} {rows : List (List AV)} (h : Agree L L' (AV.ids.idsL rows.flatten)) : dkRows L' ks rows = dkRows L ks rows := by
  induction rows with
  | nil => rfl
  | cons r rows ih =>
    have e : ∀ (a b : List AV), AV.ids.idsL (a ++ b) = AV.ids.idsL a ++ AV.ids.idsL b := by
      intro a b
      induction a with
      | nil => simp [AV.ids.idsL]
      | cons x a ih => rw [List.cons_append, idsL_cons, idsL_cons, ih, List.append_assoc]
    have h' : Agree L L' (AV.ids.idsL r ++ AV.ids.idsL rows.flatten) := by rw [← e]; simpa using h
    simp only [dkRows]
    rw [dks_near (fun k hk => h' k (List.mem_append_left _ hk)), ih (fun k hk => h' k (List.mem_append_right _ hk))]
theorem agree_ups {l : List (Nat × Blk)} {ids : List Nat} (h : Agree L L' ids) : Agree (ups L l) (ups L' l) ids := fun r hr => ups_at (h r hr)
theorem oStore_near {T : TypeId} {a p : AV} (ha : Agree L L' a.ids) (hp : Agree L L' p.ids) : oStore P L' T a p = oStore P L T a p := by
  have hc : Agree L L' (AV.ids.idsL a.cells) := fun r hr => ha r (ids_cells a r hr)
  cases p with
  | ptr r off => simp only [oStore]; rw [hp r (by simp [AV.ids])]
  | eptr r i j => simp only [oStore]; rw [frz_near hc, agree_ups hp r (by simp [AV.ids]), dks_near (agree_ups hc)]
  | _ => rfl
theorem oIndexAddr_near {T : TypeId} {x i : AV} (h : Agree L L' x.ids) : oIndexAddr P L' T x i = oIndexAddr P L T x i := by
  unfold oIndexAddr
  split
  · cases x with
    | own r => simp only; rw [h r (by simp [AV.ids])]
    | sub r lo hi => simp only; rw [h r (by simp [AV.ids])]
    | _ => rfl
  · rfl
theorem oFieldAddr_near {T : TypeId} {x : AV} {f : Nat} (h : Agree L L' x.ids) : oFieldAddr P L' T x f = oFieldAddr P L T x f := by
  unfold oFieldAddr
  split
  · split
    · rfl
    · cases x with
      | ptr r off => simp only; rw [h r (by simp [AV.ids])]
      | eptr r i j => simp only; rw [h r (by simp [AV.ids])]
      | _ => rfl
  · rfl
theorem oSlice_near {T : TypeId} {x : AV} {lo hi : Option AV} (h : Agree L L' x.ids) : oSlice P L' T x lo hi = oSlice P L T x lo hi := by
  unfold oSlice
  split
  · cases x with
    | own r => simp only; rw [h r (by simp [AV.ids])]
    | _ => rfl
  · rfl
theorem oSliceQ_near {T : TypeId} {x : AV} {lo hi : Option AV} {q : Nat} (h : Agree L L' x.ids) : oSliceQ P L' T x lo hi q = oSliceQ P L T x lo hi q := by
  unfold oSliceQ
  rw [oSlice_near h]
  cases x with
  | own r => simp only; rw [h r (by simp [AV.ids])]
  | _ => rfl
theorem oSliceE_near {md : Bool} {T : TypeId} {x : AV} {lo hi : Option AV} {q : Nat} (h : Agree L L' x.ids) : oSliceE P md L' T x lo hi q = oSliceE P md L T x lo hi q := by
  unfold oSliceE oSliceEnd
  simp only [oSliceQ_near h]
  cases x with
  | own r => simp only; rw [h r (by simp [AV.ids])]
  | _ => rfl
theorem oLen_near {T : TypeId} {x : AV} (h : Agree L L' x.ids) : oLen P L' T x = oLen P L T x := by
  unfold oLen
  split
  · rw [lenOf_near h]
  · rfl
  · rfl
theorem oLenQ_near {T : TypeId} {x : AV} (h : Agree L L' (foot L [x])) : oLenQ P L' T x = oLenQ P L T x := by
  have hx : Agree L L' x.ids := fun r hr => h r (List.mem_flatMap.2 ⟨r, by simp [AV.ids.idsL, hr], by simp⟩)
  cases x with
  | own k =>
    have hk : L' k = L k := hx k (by simp [AV.ids])
    unfold oLenQ
    dsimp only
    rw [oLen_near hx, hk]
    split
    · rename_i r e2 sz2 cols2 rows2 hL
      have hr : L' r = L r := h r (List.mem_flatMap.2 ⟨k, by simp [AV.ids.idsL, AV.ids], by rw [hL]; simp [blkIds]⟩)
      rw [hr]
    · rfl
  | _ => unfold oLenQ; exact oLen_near hx
theorem oConvert_near {a b : TypeId} {x : AV} (h : Agree L L' x.ids) : oConvert P L' a b x = oConvert P L a b x := by
  unfold oConvert
  split
  · rfl
  · rw [rowsOf_near h]
  · rfl
theorem oAppend_near {T : TypeId} {x y : AV} {q : Nat} (hx : Agree L L' x.ids) (hy : Agree L L' y.ids) : oAppend P L' T x y q = oAppend P L T x y q := by
  unfold oAppend
  split
  · rw [rowsOf_near hy]
    split
    · split
      · cases x with
        | own r => simp only; rw [hx r (by simp [AV.ids])]
        | sub r lo hi => simp only; rw [hx r (by simp [AV.ids])]
        | _ => rfl
      · rfl
    · rfl
  · rfl
theorem oCopy_near {T : TypeId} {x y : AV} (hx : Agree L L' x.ids) (hy : Agree L L' y.ids) : oCopy P L' T x y = oCopy P L T x y := by
  unfold oCopy
  split
  · rename_i e r hu
    rw [rowsOf_near hy, hx r (by simp [AV.ids])]
  · rename_i e r lo hi hu
    rw [rowsOf_near hy, hx r (by simp [AV.ids])]
  · rfl
theorem fillR_ids {sz : Nat} : ∀ {ps : List (Nat × AV)} {rows rows' : List (List AV)} {ids : List Nat}, fillR sz rows ps = some rows' → (∀ r ∈ AV.ids.idsL rows.flatten, r ∈ ids) → (∀ p ∈ ps, ∀ r ∈ p.2.ids, r ∈ ids) → ∀ r ∈ AV.ids.idsL rows'.flatten, r ∈ ids := by
  have mem : ∀ (l : List AV) (r : Nat), r ∈ AV.ids.idsL l ↔ ∃ x ∈ l, r ∈ x.ids := by
    intro l r
    induction l with
    | nil => simp [AV.ids.idsL]
    | cons x l ih => rw [idsL_cons, List.mem_append, ih]; simp
  intro ps
  induction ps with
  | nil => intro rows rows' ids h h1 _; simp [fillR] at h; subst h; exact h1
  | cons p ps ih =>
    obtain ⟨i, a⟩ := p
    intro rows rows' ids h h1 h2
    simp only [fillR] at h
    split at h
    · refine ih h (fun r hr => ?_) (fun p hp => h2 p (by simp [hp]))
      rw [mem] at hr
      obtain ⟨x, hx, hr⟩ := hr
      obtain ⟨row, hrow, hx⟩ := List.mem_flatten.1 hx
      rcases List.mem_or_eq_of_mem_set hrow with hm | rfl
      · exact h1 r ((mem _ _).2 ⟨x, List.mem_flatten.2 ⟨row, hm, hx⟩, hr⟩)
      · exact h2 (i, a) (by simp) r (ids_cells a r ((mem _ _).2 ⟨x, hx, hr⟩))
    · cases h
theorem oBuildSlice_near {T : TypeId} {n q : Nat} {ps : List (Nat × AV)} (h : ∀ p ∈ ps, Agree L L' p.2.ids) : oBuildSlice P L' T n ps q = oBuildSlice P L T n ps q := by
  have none_ : ∀ (l : List AV), (∀ x ∈ l, x.ids = []) → AV.ids.idsL l = [] := by
    intro l hl
    induction l with
    | nil => rfl
    | cons x l ih => rw [idsL_cons, hl x (by simp), ih fun y hy => hl y (by simp [hy])]; rfl
  have zeros : ∀ n (l : List Value), AV.ids.idsL (List.replicate n (l.map AV.v)).flatten = [] := by
    intro n l
    refine none_ _ fun x hx => ?_
    obtain ⟨r, hr, hx⟩ := List.mem_flatten.1 hx
    obtain ⟨_, rfl⟩ := List.mem_replicate.1 hr
    obtain ⟨v, _, rfl⟩ := List.mem_map.1 hx
    rfl
  unfold oBuildSlice
  split
  · split
    · split
      · split
        · rename_i rows hf
          have hag : Agree L L' (AV.ids.idsL rows.flatten) := fun r hr => by
            have := fillR_ids (ids := ps.flatMap fun p => p.2.ids) hf (fun r hr => by rw [zeros] at hr; simp at hr) (fun p hp r hr => List.mem_flatMap.2 ⟨p, hp, hr⟩) r hr
            obtain ⟨p, hp, hr⟩ := List.mem_flatMap.1 this
            exact h p hp r hr
          rw [frz_near hag, dkRows_near (agree_ups hag)]
        · rfl
      · rfl
    · rfl
  · rfl
theorem isTr_near {x : AV} (h : Agree L L' x.ids) : isTr L' x = isTr L x := by
  cases x with
  | own r => simp only [isTr]; rw [h r (by simp [AV.ids])]
  | _ => rfl
theorem isTrP_near {x : AV} (h : Agree L L' x.ids) : isTrP L' x = isTrP L x := by
  cases x with
  | eptr r i j => simp only [isTrP]; rw [h r (by simp [AV.ids])]
  | _ => rfl
theorem tkd_near {k : TK} {x : AV} (h : Agree L L' x.ids) : tkd L' k x = tkd L k x := by
  cases x with
  | own r => cases k <;> simp only [tkd]; rw [h r (by simp [AV.ids])]
  | _ => cases k <;> rfl
theorem tkds_near : ∀ {ks : List TK} {xs : List AV}, Agree L L' (AV.ids.idsL xs) → tkds L' ks xs = tkds L ks xs
  | [], [], _ => rfl
  | [], _ :: _, _ => rfl
  | _ :: _, [], _ => rfl
  | k :: ks, x :: xs, h => by
    simp only [tkds]
    rw [tkd_near (fun r hr => h r (by rw [idsL_cons]; exact List.mem_append_left _ hr)), tkds_near (fun r hr => h r (by rw [idsL_cons]; exact List.mem_append_right _ hr))]
theorem idsL_append (a b : List AV) : AV.ids.idsL (a ++ b) = AV.ids.idsL a ++ AV.ids.idsL b := by
  induction a with
  | nil => simp [AV.ids.idsL]
  | cons x a ih => rw [List.cons_append, idsL_cons, idsL_cons, ih, List.append_assoc]
theorem tkRows_near {cols : List TK} : ∀ {rows : List (List AV)}, Agree L L' (AV.ids.idsL rows.flatten) → tkRows L' cols rows = tkRows L cols rows
  | [], _ => rfl
  | r :: rows, h => by
    have h' : Agree L L' (AV.ids.idsL r ++ AV.ids.idsL rows.flatten) := by rw [← idsL_append]; simpa using h
    simp only [tkRows]
    rw [tkds_near (fun k hk => h' k (List.mem_append_left _ hk)), tkRows_near (fun k hk => h' k (List.mem_append_right _ hk))]
theorem treeOf_near {e : TypeId} {sz : Nat} {cols : List TK} {x : AV} (h : Agree L L' x.ids) : treeOf L' e sz cols x = treeOf L e sz cols x := by
  cases x with
  | own r => simp only [treeOf]; rw [h r (by simp [AV.ids])]
  | _ => rfl
theorem oBuildTree_near {T : TypeId} {n q : Nat} {ps : List (Nat × AV)} (h : ∀ p ∈ ps, Agree L L' p.2.ids) : oBuildTree P L' T n ps q = oBuildTree P L T n ps q := by
  have none_ : ∀ (l : List AV), (∀ x ∈ l, x.ids = []) → AV.ids.idsL l = [] := by
    intro l hl
    induction l with
    | nil => rfl
    | cons x l ih => rw [idsL_cons, hl x (by simp), ih fun y hy => hl y (by simp [hy])]; rfl
  have zeros : ∀ n (l : List Value), AV.ids.idsL (List.replicate n (l.map AV.v)).flatten = [] := by
    intro n l
    refine none_ _ fun x hx => ?_
    obtain ⟨r, hr, hx⟩ := List.mem_flatten.1 hx
    obtain ⟨_, rfl⟩ := List.mem_replicate.1 hr
    obtain ⟨v, _, rfl⟩ := List.mem_map.1 hx
    rfl
  unfold oBuildTree
  split
  · split
    · split
      · split
        · rename_i rows hf
          have hag : Agree L L' (AV.ids.idsL rows.flatten) := fun r hr => by
            have := fillR_ids (ids := ps.flatMap fun p => p.2.ids) hf (fun r hr => by rw [zeros] at hr; simp at hr) (fun p hp r hr => List.mem_flatMap.2 ⟨p, hp, hr⟩) r hr
            obtain ⟨p, hp, hr⟩ := List.mem_flatMap.1 this
            exact h p hp r hr
          rw [tkRows_near hag]
        · rfl
      · rfl
    · rfl
  · rfl
theorem oBuildSliceQ_near {md : Bool} {T : TypeId} {n q : Nat} {ps : List (Nat × AV)} (h : ∀ p ∈ ps, Agree L L' p.2.ids) : oBuildSliceQ P md L' T n ps q = oBuildSliceQ P md L T n ps q := by
  have e : (ps.any fun p => p.2.cells.any (isTr L')) = (ps.any fun p => p.2.cells.any (isTr L)) := by
    rw [Bool.eq_iff_iff, List.any_eq_true, List.any_eq_true]
    have mem : ∀ (l : List AV) (r : Nat), r ∈ AV.ids.idsL l ↔ ∃ x ∈ l, r ∈ x.ids := by
      intro l r
      induction l with
      | nil => simp [AV.ids.idsL]
      | cons x l ih => rw [idsL_cons, List.mem_append, ih]; simp
    have key : ∀ p ∈ ps, p.2.cells.any (isTr L') = p.2.cells.any (isTr L) := fun p hp => by
      have : ∀ x ∈ p.2.cells, isTr L' x = isTr L x := fun x hx => isTr_near fun r hr => h p hp r (ids_cells _ r ((mem _ _).2 ⟨x, hx, hr⟩))
      rw [Bool.eq_iff_iff, List.any_eq_true, List.any_eq_true]
      exact ⟨fun ⟨x, hx, ht⟩ => ⟨x, hx, by rw [← this x hx]; exact ht⟩, fun ⟨x, hx, ht⟩ => ⟨x, hx, by rw [this x hx]; exact ht⟩⟩
    exact ⟨fun ⟨p, hp, ht⟩ => ⟨p, hp, by rw [← key p hp]; exact ht⟩, fun ⟨p, hp, ht⟩ => ⟨p, hp, by rw [key p hp]; exact ht⟩⟩
  unfold oBuildSliceQ
  rw [e, oBuildTree_near h, oBuildSlice_near h]
theorem oAppendZ_near {T T' : TypeId} {x y : AV} {q : Nat} (hx : Agree L L' x.ids) : oAppendZ P L' T T' x y q = oAppendZ P L T T' x y q := by
  unfold oAppendZ
  cases x with
  | own r => simp only; rw [hx r (by simp [AV.ids])]
  | _ => rfl
theorem oAppendQ_near {T : TypeId} {x y : AV} {q : Nat} (hx : Agree L L' x.ids) (hy : Agree L L' y.ids) : oAppendQ P L' T x y q = oAppendQ P L T x y q := by
  unfold oAppendQ
  rw [isTr_near hy, oAppend_near hx hy]
  congr 1
  unfold oAppendTree
  split
  · split
    · rw [treeOf_near hx, treeOf_near hy]
    · rfl
  · rfl
theorem oStoreQ_near {T : TypeId} {a p : AV} (ha : Agree L L' a.ids) (hp : Agree L L' p.ids) : oStoreQ P L' T a p = oStoreQ P L T a p := by
  have hc : Agree L L' (AV.ids.idsL a.cells) := fun r hr => ha r (ids_cells a r hr)
  unfold oStoreQ
  rw [isTrP_near hp, oStore_near ha hp]
  congr 1
  cases p with
  | eptr r i j =>
    simp only [oStoreTree]
    rw [hp r (by simp [AV.ids])]
    split
    · rw [tkds_near hc]
    · rw [tkds_near hc]
    · rfl
  | _ => rfl
theorem oLoadQ_near {T : TypeId} {x : AV} {q : Nat} (h : Agree L L' (foot L [x])) : oLoadQ P L' T x q = oLoadQ P L T x q := by
  have hx : Agree L L' x.ids := fun r hr => h r (List.mem_flatMap.2 ⟨r, by simp [AV.ids.idsL, hr], by simp⟩)
  unfold oLoadQ
  rw [isTrP_near hx, oLoad_near hx]
  congr 1
  cases x with
  | eptr r i j =>
    have e1 : oLoadRow P L' T (.eptr r i j) q = oLoadRow P L T (.eptr r i j) q := by simp only [oLoadRow]; rw [hx r (by simp [AV.ids])]
    have e2 : oLoadKid P L' T (.eptr r i j) q = oLoadKid P L T (.eptr r i j) q := by
      simp only [oLoadKid]
      rw [hx r (by simp [AV.ids])]
      split
      · rfl
      · rename_i i' j' k _ _ _ _ hL
        rw [h k (List.mem_flatMap.2 ⟨r, by simp [AV.ids.idsL, AV.ids], by rw [hL]; simp [blkIds]⟩)]
      · rfl
    rw [e1, e2]
  | _ => rfl
theorem oOp_near {G : List (FuncId × Abs)} (hG : ∀ p ∈ G, CallOk P p.1 p.2) {o : Op} {ev : Operand → AV} {q : Nat} (h : Agree L L' (foot L (o.operands.toList.map ev))) : oOp P G o ev L' q = oOp P G o ev L q := by
  have mem : ∀ (l : List AV) (r : Nat), r ∈ AV.ids.idsL l ↔ ∃ x ∈ l, r ∈ x.ids := by
    intro l r
    induction l with
    | nil => simp [AV.ids.idsL]
    | cons x l ih => rw [idsL_cons, List.mem_append, ih]; simp
  have hx : ∀ x ∈ o.operands.toList, Agree L L' (ev x).ids := fun x hx r hr => h r (List.mem_flatMap.2 ⟨r, (mem _ _).2 ⟨ev x, List.mem_map.2 ⟨x, hx, rfl⟩, hr⟩, by simp⟩)
  cases o <;> try rfl
  case buildSlice T n ps =>
    refine oBuildSliceQ_near fun p hp => ?_
    obtain ⟨p', hp', rfl⟩ := List.mem_map.1 hp
    exact hx p'.2 (by simp only [Op.operands]; simp; exact ⟨p'.1, by simpa using hp'⟩)
  case load T x =>
    refine oLoadQ_near fun r hr => h r ?_
    obtain ⟨r', h1, h2⟩ := List.mem_flatMap.1 hr
    refine List.mem_flatMap.2 ⟨r', ?_, h2⟩
    rw [mem] at h1 ⊢
    obtain ⟨y, hy, hr'⟩ := h1
    rw [List.mem_singleton] at hy
    subst hy
    exact ⟨ev x, List.mem_map.2 ⟨x, by simp [Op.operands], rfl⟩, hr'⟩
  case store T x y =>
    simp only [oOp]
    rw [oStoreQ_near (hx y (by simp [Op.operands])) (hx x (by simp [Op.operands]))]
  case convert a b x => exact oConvert_near (hx x (by simp [Op.operands]))
  case slice T x lo hi mx =>
    cases mx with
    | none => exact oSliceE_near (hx x (by simp [Op.operands]))
    | some m => rfl
  case fieldAddr T x f => exact oFieldAddr_near (hx x (by simp [Op.operands]))
  case indexAddr T x i => exact oIndexAddr_near (hx x (by simp [Op.operands]))
  case nilCheck x =>
    simp only [oOp, oNil]
    have k := hx x (by simp [Op.operands])
    split
    · rename_i r off e; rw [k r (by rw [e]; simp [AV.ids])]
    · rename_i r i j e; rw [k r (by rw [e]; simp [AV.ids])]
    · rfl
    · rfl
    · rfl
  case call c =>
    obtain ⟨callee, args, argTypes⟩ := c
    simp only [oOp]
    split
    · rename_i f
      split
      · rename_i p hp
        refine (hG p (List.mem_of_find?_eq_some hp)).near L L' _ q fun r hr => h r ?_
        obtain ⟨r', h1, h2⟩ := List.mem_flatMap.1 hr
        refine List.mem_flatMap.2 ⟨r', ?_, h2⟩
        rw [mem] at h1 ⊢
        obtain ⟨x, hx, hr⟩ := h1
        exact ⟨x, by simp only [Op.operands, Call.operands]; simp at hx ⊢; exact .inr hx, hr⟩
      · rfl
    · split
      · rename_i x T e1 e2
        refine oLenQ_near fun r hr => h r ?_
        obtain ⟨r', h1, h2⟩ := List.mem_flatMap.1 hr
        refine List.mem_flatMap.2 ⟨r', ?_, h2⟩
        rw [mem] at h1 ⊢
        obtain ⟨y, hy, hr'⟩ := h1
        rw [List.mem_singleton] at hy
        subst hy
        exact ⟨ev x, List.mem_map.2 ⟨x, by simp only [Op.operands, Call.operands]; simp; rw [← Array.mem_toList_iff, e1]; simp, rfl⟩, hr'⟩
      · rfl
    · split
      · rename_i x y T T' e1 e2
        split
        · exact oAppendQ_near (hx x (by simp only [Op.operands, Call.operands]; simp; rw [← Array.mem_toList_iff, e1]; simp)) (hx y (by simp only [Op.operands, Call.operands]; simp; rw [← Array.mem_toList_iff, e1]; simp))
        · exact oAppendZ_near (hx x (by simp only [Op.operands, Call.operands]; simp; rw [← Array.mem_toList_iff, e1]; simp))
      · rfl
    · rfl
    · split
      · rename_i x y T T' e1 e2
        exact oCopy_near (hx x (by simp only [Op.operands, Call.operands]; simp; rw [← Array.mem_toList_iff, e1]; simp)) (hx y (by simp only [Op.operands, Call.operands]; simp; rw [← Array.mem_toList_iff, e1]; simp))
      · rfl
    · rfl
    · rfl
theorem oOp_congr {G : List (FuncId × Abs)} {o : Op} {ev ev' : Operand → AV} {q : Nat} (h : ∀ x ∈ o.operands, ev' x = ev x) : oOp P G o ev' L q = oOp P G o ev L q := by
  cases o <;> simp only [Op.operands] at h <;> simp only [oOp] <;> try (simp_all; done)
  case build t ps =>
    congr 1
    exact List.map_congr_left fun p hp => by rw [h p.2 (by simp; exact ⟨p.1, by simpa using hp⟩)]
  case buildSlice t n ps =>
    congr 1
    exact List.map_congr_left fun p hp => by rw [h p.2 (by simp; exact ⟨p.1, by simpa using hp⟩)]
  case slice T x lo hi mx => cases lo <;> cases hi <;> cases mx <;> simp_all
  case call c =>
    obtain ⟨callee, args, argTypes⟩ := c
    simp only [Call.operands] at h
    dsimp only
    have hargs : args.toList.map ev' = args.toList.map ev := List.map_congr_left fun x hx => h x (by simp at hx ⊢; exact .inr hx)
    split
    · rw [hargs]
    · split
      · rename_i x T e1 e2
        have e1' : args.toList = [x] := e1
        rw [h x (by simp only [Array.mem_append]; right; rw [← Array.mem_toList_iff, e1']; simp)]
      · rfl
    · split
      · rename_i x y T T' e1 e2
        have e1' : args.toList = [x, y] := e1
        rw [h x (by simp only [Array.mem_append]; right; rw [← Array.mem_toList_iff, e1']; simp), h y (by simp only [Array.mem_append]; right; rw [← Array.mem_toList_iff, e1']; simp)]
      · rfl
    · split
      · rename_i x y T T' e1 e2
        have e1' : args.toList = [x, y] := e1
        rw [h x (by simp only [Array.mem_append]; right; rw [← Array.mem_toList_iff, e1']; simp), h y (by simp only [Array.mem_append]; right; rw [← Array.mem_toList_iff, e1']; simp)]
      · rename_i x y z T T' T2 e1 e2
        have e1' : args.toList = [x, y, z] := e1
        have hm : ∀ o ∈ [x, y, z], ev' o = ev o := fun o ho => h o (by simp only [Array.mem_append]; right; rw [← Array.mem_toList_iff, e1']; exact ho)
        rw [hm x (by simp), hm y (by simp), hm z (by simp)]
      · rfl
    · split
      · rename_i x y T T' e1 e2
        have e1' : args.toList = [x, y] := e1
        rw [h x (by simp only [Array.mem_append]; right; rw [← Array.mem_toList_iff, e1']; simp), h y (by simp only [Array.mem_append]; right; rw [← Array.mem_toList_iff, e1']; simp)]
      · rfl
    · split
      · rename_i x y T T' e1 e2
        have e1' : args.toList = [x, y] := e1
        rw [h x (by simp only [Array.mem_append]; right; rw [← Array.mem_toList_iff, e1']; simp), h y (by simp only [Array.mem_append]; right; rw [← Array.mem_toList_iff, e1']; simp)]
      · rfl
    · rfl
end
end Go.Proofs.Ytkfjaeoehhakpaa
namespace Go.Proofs.Ytkfjaeoehhakpaa
open Go.RowKit
abbrev FP := List Nat × List Nat
def ord (ops : Array Oper) (i j : Nat) : Bool := ((Region.before ops).getD j 0).testBit i
def inOrd (ops : Array Oper) (i j : Nat) : Bool := if i < j then ord ops i j else if j < i then ord ops j i else true
def ordOk (ops : Array Oper) : Bool :=
  (List.range ops.size).all fun j => match ops[j]? with
    | some o => (o.after.toList.all fun e => !Region.binds .any e || decide (e.on < j)) &&
        (List.range ops.size).all fun i => !ord ops i j || o.after.toList.any fun e => Region.binds .any e && (e.on == i || ord ops i e.on)
    | none => true
def tmpOk (ops : Array Oper) : Bool :=
  (List.range ops.size).all fun i => (List.range ops.size).all fun j => match ops[i]?, ops[j]? with
    | some x, some y => match x.dst with
      | some d => (!(y.looksAt ops).contains d && y.dst != some d) || inOrd ops i j
      | none => true
    | _, _ => true
def fpOk (ops : Array Oper) (q0 : Nat) (fps : List FP) : Bool :=
  (List.range ops.size).all fun i => (List.range ops.size).all fun j => match fps[i]?, fps[j]? with
    | some (_, wi), some (rj, wj) => wi.all fun r => ((!rj.contains r && !wj.contains r) || inOrd ops i j) && (!(decide (q0 + 16 * j ≤ r) && decide (r < q0 + 16 * (j + 1))) || i == j || (decide (j < i) && ord ops j i))
    | _, _ => true
def footO (L : Nat → Blk) (op : Op) (xs : List AV) : List Nat := match op with
  | .move _ => []
  | _ => foot L xs
def fpOf (P : Program) (G : List (FuncId × Abs)) (o : Oper) (tm : List AV) (L : Nat → Blk) (out : Out) : FP := (footO L o.op (o.op.operands.toList.map (evA tm)), out.ups.map (·.1))
def Tr (P : Program) (G : List (FuncId × Abs)) (ops : Array Oper) (q0 : Nat) : List Oper → Nat → List AV → (Nat → Blk) → List (Out × FP) → List AV → (Nat → Blk) → Prop
  | [], _, tm, L, outs, tm', L' => outs = [] ∧ tm' = tm ∧ L' = L
  | o :: rest, k, tm, L, outs, tm', L' => ∃ out outs', outs = (out, fpOf P G o tm L out) :: outs' ∧ stepA P G ops o tm L (q0 + 16 * k) = some out ∧ out.c ∧ (out.ups.all fun p => decide (p.1 < q0 + 16 * (k + 1))) = true ∧
      Tr P G ops q0 rest (k + 1) (putT tm o.dst out.dst) (ups L out.ups) outs' tm' L'
def apT (D : Nat → Bool) : List Oper → List (Out × FP) → Nat → List AV → List AV
  | o :: os, p :: ps, k, tm => apT D os ps (k + 1) (if D k then putT tm o.dst p.1.dst else tm)
  | _, _, _, tm => tm
def apL (D : Nat → Bool) : List (Out × FP) → Nat → (Nat → Blk) → Nat → Blk
  | p :: ps, k, L => apL D ps (k + 1) (if D k then ups L p.1.ups else L)
  | [], _, L => L
section
theorem putT_len (tm : List AV) (d : Option Tmp) (x : AV) : (putT tm d x).length = tm.length := by cases d <;> simp [putT]
theorem putT_ne {tm : List AV} {d : Option Tmp} {x : AV} {t : Nat} (h : d ≠ some t) : (putT tm d x)[t]? = tm[t]? := by
  cases d with
  | none => rfl
  | some e => exact List.getElem?_set_ne fun h' => h (by rw [h'])
theorem putT_at {tm tm' : List AV} {d : Option Tmp} {x : AV} {t : Nat} (h : tm'[t]? = tm[t]?) (hl : tm'.length = tm.length) : (putT tm' d x)[t]? = (putT tm d x)[t]? := by
  cases d with
  | none => exact h
  | some e => simp only [putT, List.getElem?_set, h, hl]
theorem apT_at {t : Nat} : ∀ {os : List Oper} {ps : List (Out × FP)} {k : Nat} {D D' : Nat → Bool} {tm tm' : List AV}, tm'[t]? = tm[t]? → tm'.length = tm.length →
    (∀ j o, os[j]? = some o → o.dst = some t → D' (k + j) = D (k + j)) → (apT D' os ps k tm')[t]? = (apT D os ps k tm)[t]?
  | [], _, _, _, _, _, _, h, _, _ => by simpa [apT] using h
  | _ :: _, [], _, _, _, _, _, h, _, _ => by simpa [apT] using h
  | o :: os, p :: ps, k, D, D', tm, tm', h, hl, hD => by
    simp only [apT]
    refine apT_at ?_ ?_ fun j o' hj hd => by
      have := hD (j + 1) o' (by simpa using hj) hd
      rwa [show k + (j + 1) = k + 1 + j by omega] at this
    · by_cases hd : o.dst = some t
      · have := hD 0 o rfl hd
        rw [Nat.add_zero] at this
        rw [this]
        split
        · exact putT_at h hl
        · exact h
      · have e : ∀ (b : Bool) (x : List AV), (if b then putT x o.dst p.1.dst else x)[t]? = x[t]? := fun b x => by
          cases b
          · rfl
          · exact putT_ne hd
        rw [e, e, h]
    · have e : ∀ (b : Bool) (x : List AV), (if b then putT x o.dst p.1.dst else x).length = x.length := fun b x => by
        cases b
        · rfl
        · exact putT_len _ _ _
      rw [e, e, hl]
theorem ups_out {l : List (Nat × Blk)} {r : Nat} (h : r ∉ l.map (·.1)) : ∀ {L : Nat → Blk}, ups L l r = L r := by
  induction l with
  | nil => intro L; rfl
  | cons p l ih =>
    intro L
    simp only [List.map_cons, List.mem_cons, not_or] at h
    rw [ups, ih h.2, up_ne _ _ h.1]
theorem apL_at {r : Nat} : ∀ {ps : List (Out × FP)} {k : Nat} {D D' : Nat → Bool} {L L' : Nat → Blk}, L' r = L r →
    (∀ j p, ps[j]? = some p → r ∈ p.1.ups.map (·.1) → D' (k + j) = D (k + j)) → apL D' ps k L' r = apL D ps k L r
  | [], _, _, _, _, _, h, _ => by simpa [apL] using h
  | p :: ps, k, D, D', L, L', h, hD => by
    simp only [apL]
    refine apL_at ?_ fun j p' hj hd => by
      have := hD (j + 1) p' (by simpa using hj) hd
      rwa [show k + (j + 1) = k + 1 + j by omega] at this
    by_cases hd : r ∈ p.1.ups.map (·.1)
    · have := hD 0 p rfl hd
      rw [Nat.add_zero] at this
      rw [this]
      split
      · exact ups_at h
      · exact h
    · have e : ∀ (b : Bool) (L : Nat → Blk), (if b then ups L p.1.ups else L) r = L r := fun b L => by
        cases b
        · rfl
        · exact ups_out hd
      rw [e, e, h]
theorem apT_more {i : Nat} {oi : Oper} {pi : Out × FP} : ∀ {os : List Oper} {ps : List (Out × FP)} {k : Nat} {D D' : Nat → Bool} {tm : List AV}, k ≤ i → os[i - k]? = some oi → ps[i - k]? = some pi → D i = false → (∀ j, D' j = (D j || j == i)) →
    (∀ j o, os[j]? = some o → i < k + j → D (k + j) = true → ∀ d, oi.dst = some d → o.dst ≠ some d) → apT D' os ps k tm = putT (apT D os ps k tm) oi.dst pi.1.dst
  | [], _, _, _, _, _, _, h, _, _, _, _ => by simp at h
  | _ :: _, [], _, _, _, _, _, _, h, _, _, _ => by simp at h
  | o :: os, p :: ps, k, D, D', tm, hk, ho, hp, hDi, hD', hdis => by
    simp only [apT]
    rcases Nat.lt_or_ge k i with hlt | hge
    · have e1 : i - k = (i - (k + 1)) + 1 := by omega
      rw [e1, List.getElem?_cons_succ] at ho hp
      have ek : D' k = D k := by rw [hD', show (k == i) = false by simp; omega, Bool.or_false]
      rw [ek]
      exact apT_more (by omega) ho hp hDi hD' fun j o' hj h1 h2 => hdis (j + 1) o' (by simpa using hj) (by omega) (by rwa [show k + (j + 1) = k + 1 + j by omega])
    · obtain rfl : k = i := by omega
      simp only [Nat.sub_self, List.getElem?_cons_zero, Option.some.injEq] at ho hp
      subst ho
      subst hp
      rw [hD', hDi]
      simp only [beq_self_eq_true, Bool.or_true, if_true, Bool.false_eq_true, if_false]
      have same : ∀ (os : List Oper) (ps : List (Out × FP)) (m : Nat) (x : List AV), k < m → (∀ j o', os[j]? = some o' → D (m + j) = true → ∀ d, o.dst = some d → o'.dst ≠ some d) → apT D' os ps m (putT x o.dst p.1.dst) = putT (apT D os ps m x) o.dst p.1.dst := by
        intro os
        induction os with
        | nil => intro ps m x _ _; simp [apT]
        | cons o1 os ih =>
          intro ps m x hm hh
          cases ps with
          | nil => simp [apT]
          | cons p1 ps =>
            simp only [apT]
            have em : D' m = D m := by rw [hD', show (m == k) = false by simp; omega, Bool.or_false]
            rw [em]
            have step : (if D m = true then putT (putT x o.dst p.1.dst) o1.dst p1.1.dst else putT x o.dst p.1.dst) = putT (if D m = true then putT x o1.dst p1.1.dst else x) o.dst p.1.dst := by
              split
              · rename_i hDm
                have hne := hh 0 o1 rfl (by rwa [Nat.add_zero])
                cases hd : o.dst with
                | none => rfl
                | some d =>
                  cases hd1 : o1.dst with
                  | none => rfl
                  | some d1 =>
                    have : d1 ≠ d := fun e => hne d hd (by rw [hd1, e])
                    simp only [putT]
                    exact List.set_comm _ _ (Ne.symm this)
              · rfl
            rw [step]
            exact ih ps (m + 1) _ (by omega) fun j o' hj h2 => hh (j + 1) o' (by simpa using hj) (by rwa [show m + (j + 1) = m + 1 + j by omega])
      exact same os ps (k + 1) tm (by omega) fun j o' hj h2 => hdis (j + 1) o' (by simpa using hj) (by omega) (by rwa [show k + (j + 1) = k + 1 + j by omega])
theorem apL_more {i : Nat} {pi : Out × FP} : ∀ {ps : List (Out × FP)} {k : Nat} {D D' : Nat → Bool} {L : Nat → Blk}, k ≤ i → ps[i - k]? = some pi → D i = false → (∀ j, D' j = (D j || j == i)) →
    (∀ j p, ps[j]? = some p → i < k + j → D (k + j) = true → ∀ r ∈ pi.1.ups.map (·.1), r ∉ p.1.ups.map (·.1)) → apL D' ps k L = ups (apL D ps k L) pi.1.ups
  | [], _, _, _, _, _, h, _, _, _ => by simp at h
  | p :: ps, k, D, D', L, hk, hp, hDi, hD', hdis => by
    simp only [apL]
    rcases Nat.lt_or_ge k i with hlt | hge
    · have e1 : i - k = (i - (k + 1)) + 1 := by omega
      rw [e1, List.getElem?_cons_succ] at hp
      have ek : D' k = D k := by rw [hD', show (k == i) = false by simp; omega, Bool.or_false]
      rw [ek]
      exact apL_more (by omega) hp hDi hD' fun j p' hj h1 h2 => hdis (j + 1) p' (by simpa using hj) (by omega) (by rwa [show k + (j + 1) = k + 1 + j by omega])
    · obtain rfl : k = i := by omega
      simp only [Nat.sub_self, List.getElem?_cons_zero, Option.some.injEq] at hp
      subst hp
      rw [hD', hDi]
      simp only [beq_self_eq_true, Bool.or_true, if_true, Bool.false_eq_true, if_false]
      have same : ∀ (ps : List (Out × FP)) (m : Nat) (x : Nat → Blk), k < m → (∀ j p', ps[j]? = some p' → D (m + j) = true → ∀ r ∈ p.1.ups.map (·.1), r ∉ p'.1.ups.map (·.1)) → apL D' ps m (ups x p.1.ups) = ups (apL D ps m x) p.1.ups := by
        intro ps
        induction ps with
        | nil => intro m x _ _; simp [apL]
        | cons p1 ps ih =>
          intro m x hm hh
          simp only [apL]
          have em : D' m = D m := by rw [hD', show (m == k) = false by simp; omega, Bool.or_false]
          rw [em]
          have step : (if D m = true then ups (ups x p.1.ups) p1.1.ups else ups x p.1.ups) = ups (if D m = true then ups x p1.1.ups else x) p.1.ups := by
            split
            · rename_i hDm
              have hne := hh 0 p1 rfl (by rwa [Nat.add_zero])
              funext r
              by_cases h1 : r ∈ p.1.ups.map (·.1)
              · have h2 := hne r h1
                rw [ups_out h2]
                exact ups_at (ups_out h2).symm
              · rw [ups_out h1 (L := ups x p1.1.ups)]
                exact ups_at (ups_out h1)
            · rfl
          rw [step]
          exact ih (m + 1) _ (by omega) fun j p' hj h2 => hh (j + 1) p' (by simpa using hj) (by rwa [show m + (j + 1) = m + 1 + j by omega])
      exact same ps (k + 1) L (by omega) fun j p' hj h2 => hdis (j + 1) p' (by simpa using hj) (by omega) (by rwa [show k + (j + 1) = k + 1 + j by omega])
end
section
variable {P : Program} {G : List (FuncId × Abs)} {ops : Array Oper} {q0 : Nat}
theorem Tr.at_ : ∀ {l : List Oper} {k : Nat} {tm tm' : List AV} {L L' : Nat → Blk} {outs : List (Out × FP)}, Tr P G ops q0 l k tm L outs tm' L' → outs.length = l.length ∧
    tm' = apT (fun _ => true) l outs k tm ∧ L' = apL (fun _ => true) outs k L ∧
    ∀ (i : Nat) o, l[i]? = some o → ∃ out, outs[i]? = some (out, fpOf P G o (apT (fun j => decide (j < k + i)) l outs k tm) (apL (fun j => decide (j < k + i)) outs k L) out) ∧
      stepA P G ops o (apT (fun j => decide (j < k + i)) l outs k tm) (apL (fun j => decide (j < k + i)) outs k L) (q0 + 16 * (k + i)) = some out ∧ out.c ∧ (out.ups.all fun p => decide (p.1 < q0 + 16 * (k + i + 1))) = true
  | [], k, tm, tm', L, L', outs, h => by
    obtain ⟨rfl, rfl, rfl⟩ := h
    exact ⟨rfl, rfl, rfl, fun i o h => by simp at h⟩
  | o :: l, k, tm, tm', L, L', outs, h => by
    obtain ⟨out, outs', rfl, h1, h2, h3, h4⟩ := h
    obtain ⟨k1, k2, k3, k4⟩ := Tr.at_ h4
    have none_T : ∀ (D : Nat → Bool) (os : List Oper) (ps : List (Out × FP)) (m : Nat) (x : List AV), (∀ j, m ≤ j → D j = false) → apT D os ps m x = x := by
      intro D os
      induction os with
      | nil => intro ps m x _; simp [apT]
      | cons o os ih =>
        intro ps m x hD
        cases ps with
        | nil => simp [apT]
        | cons p ps => simp only [apT, hD m (Nat.le_refl _)]; exact ih ps (m + 1) x fun j hj => hD j (by omega)
    have none_L : ∀ (D : Nat → Bool) (ps : List (Out × FP)) (m : Nat) (x : Nat → Blk), (∀ j, m ≤ j → D j = false) → apL D ps m x = x := by
      intro D ps
      induction ps with
      | nil => intro m x _; simp [apL]
      | cons p ps ih => intro m x hD; simp only [apL, hD m (Nat.le_refl _)]; exact ih (m + 1) x fun j hj => hD j (by omega)
    refine ⟨by simp [k1], by simpa [apT] using k2, by simpa [apL] using k3, fun i o' hi => ?_⟩
    cases i with
    | zero =>
      simp at hi
      subst hi
      have eT := none_T (fun j => decide (j < k + 0)) (o :: l) ((out, fpOf P G o tm L out) :: outs') k tm (fun j hj => by simp; omega)
      have eL := none_L (fun j => decide (j < k + 0)) ((out, fpOf P G o tm L out) :: outs') k L (fun j hj => by simp; omega)
      rw [eT, eL]
      exact ⟨out, rfl, h1, h2, h3⟩
    | succ i =>
      obtain ⟨out', g1, g2, g3, g4⟩ := k4 i o' (by simpa using hi)
      have eD : (fun j => decide (j < k + (i + 1))) = (fun j => decide (j < k + 1 + i)) := by funext j; exact decide_eq_decide.2 (by omega)
      have hk : decide (k < k + (i + 1)) = true := decide_eq_true (by omega)
      have eT : apT (fun j => decide (j < k + (i + 1))) (o :: l) ((out, fpOf P G o tm L out) :: outs') k tm = apT (fun j => decide (j < k + 1 + i)) l outs' (k + 1) (putT tm o.dst out.dst) := by
        simp only [apT, hk, if_true]; rw [eD]
      have eL : apL (fun j => decide (j < k + (i + 1))) ((out, fpOf P G o tm L out) :: outs') k L = apL (fun j => decide (j < k + 1 + i)) outs' (k + 1) (ups L out.ups) := by
        simp only [apL, hk, if_true]; rw [eD]
      rw [eT, eL, show k + (i + 1) = k + 1 + i by omega]
      exact ⟨out', by simpa using g1, g2, g3, g4⟩
theorem stepA_near (hG : ∀ p ∈ G, CallOk P p.1 p.2) {o : Oper} {tm tm' : List AV} {L L' : Nat → Blk} {q : Nat} (ht : ∀ t ∈ o.looksAt ops, tm'.getD t (.v undef) = tm.getD t (.v undef)) (hL : Agree L L' (footO L o.op (o.op.operands.toList.map (evA tm)))) :
    stepA P G ops o tm' L' q = stepA P G ops o tm L q := by
  have hev : ∀ x ∈ o.op.operands, evA tm' x = evA tm x := fun x hx => by
    cases x with
    | tmp t => exact ht t (List.mem_append_left _ (List.mem_filterMap.2 ⟨.tmp t, by simpa using hx, rfl⟩))
    | _ => rfl
  have hgd : guardA ops tm' o.guard = guardA ops tm o.guard := by
    unfold guardA
    split
    · rfl
    · rename_i j want hg
      split
      · rfl
      · rename_i t hd
        rw [ht t (List.mem_append_right _ (by rw [hg]; simp only; rw [hd]; simp))]
  unfold stepA
  rw [hgd]
  split
  · rfl
  · rfl
  · split
    · rename_i c x y hop
      rw [hop] at hev
      rw [hev c (by simp [Op.operands]), hev x (by simp [Op.operands]), hev y (by simp [Op.operands])]
    · rw [oOp_congr (ev := evA tm) (ev' := evA tm') hev]
      unfold footO at hL
      split at hL
      · rename_i x hop; rw [hop]; rfl
      · exact oOp_near hG hL
end
end Go.Proofs.Ytkfjaeoehhakpaa
namespace Go.Proofs.Ytkfjaeoehhakpaa
open Go.RowKit
theorem filter_less {α : Type} {p q : α → Bool} {x0 : α} : ∀ {l : List α}, (∀ x ∈ l, q x = true → p x = true) → x0 ∈ l → p x0 = true → q x0 = false → (l.filter q).length < (l.filter p).length
  | [], _, h, _, _ => by simp at h
  | x :: l, hi, hm, hp, hq => by
    have le : ∀ (l : List α), (∀ x ∈ l, q x = true → p x = true) → (l.filter q).length ≤ (l.filter p).length := by
      intro l
      induction l with
      | nil => intro _; simp
      | cons y l ih =>
        intro h
        have := ih fun x hx => h x (by simp [hx])
        have hy := h y (by simp)
        simp only [List.filter_cons]
        split
        · rename_i h1; rw [if_pos (hy h1)]; simp; exact this
        · split
          · simp; omega
          · exact this
    have h1 : ∀ x ∈ l, q x = true → p x = true := fun x hx => hi x (by simp [hx])
    simp only [List.filter_cons]
    rcases List.mem_cons.1 hm with rfl | hm
    · rw [hp, hq]
      simp
      have := le l h1
      omega
    · have := filter_less h1 hm hp hq
      have hx := hi x (by simp)
      split
      · rename_i h2; rw [if_pos (hx h2)]; simp; exact this
      · split
        · simp; omega
        · exact this
section
variable {P : Program} {G : List (FuncId × Abs)} {ops : Array Oper} {q0 : Nat} {F : Nat → Prop} {W0 : Ent} {S : List (Nat × Value)}
def Closed (ops : Array Oper) (D : Nat → Bool) : Prop := ∀ j o, ops[j]? = some o → D j = true → ∀ e ∈ o.after, Region.binds .any e = true → D e.on = true
theorem ordOk_spec (h : ordOk ops = true) : ∀ j o, ops[j]? = some o → (∀ e ∈ o.after, Region.binds .any e = true → e.on < j) ∧ ∀ i, i < ops.size → ord ops i j = true → ∃ e ∈ o.after, Region.binds .any e = true ∧ (e.on = i ∨ ord ops i e.on = true) := by
  intro j o ho
  have hj : j < ops.size := (Array.getElem?_eq_some_iff.1 ho).1
  have := List.all_eq_true.1 h j (List.mem_range.2 hj)
  rw [ho] at this
  simp only [Bool.and_eq_true, List.all_eq_true, Bool.or_eq_true, Bool.not_eq_true', decide_eq_true_eq, List.any_eq_true] at this
  obtain ⟨h1, h2⟩ := this
  refine ⟨fun e he hb => ?_, fun i hi ho' => ?_⟩
  · rcases h1 e (by simpa using he) with h | h
    · rw [hb] at h; cases h
    · exact h
  · rcases h2 i (List.mem_range.2 hi) with h | ⟨e, he, hb, h⟩
    · rw [ho'] at h; cases h
    · exact ⟨e, by simpa using he, hb, by simpa using h⟩
theorem closed_ord (h : ordOk ops = true) {D : Nat → Bool} (hD : Closed ops D) : ∀ (j i : Nat), i < ops.size → j < ops.size → D j = true → ord ops i j = true → D i = true := by
  intro j
  induction j using Nat.strongRecOn with
  | _ j ih =>
    intro i hi hj hDj ho
    have hoj : ops[j]? = some ops[j] := Array.getElem?_eq_getElem hj
    obtain ⟨h1, h2⟩ := ordOk_spec h j _ hoj
    obtain ⟨e, he, hb, h3⟩ := h2 i hi ho
    have hlt := h1 e he hb
    have hDe := hD j _ hoj hDj e he hb
    rcases h3 with rfl | h3
    · exact hDe
    · exact ih e.on hlt i hi (by omega) hDe h3
theorem fpOk_spec {fps : List FP} (h : fpOk ops q0 fps = true) {i j : Nat} {ri wi rj wj : List Nat} (hi : fps[i]? = some (ri, wi)) (hj : fps[j]? = some (rj, wj)) (hil : i < ops.size) (hjl : j < ops.size) {r : Nat} (hr : r ∈ wi) :
    (r ∈ rj ∨ r ∈ wj → inOrd ops i j = true) ∧ (q0 + 16 * j ≤ r → r < q0 + 16 * (j + 1) → i = j ∨ (j < i ∧ ord ops j i = true)) := by
  have := List.all_eq_true.1 (List.all_eq_true.1 h i (List.mem_range.2 hil)) j (List.mem_range.2 hjl)
  rw [hi, hj] at this
  have := List.all_eq_true.1 this r hr
  simp only [Bool.and_eq_true, Bool.or_eq_true, Bool.not_eq_true', decide_eq_true_eq, Bool.and_eq_false_iff, decide_eq_false_iff_not, beq_iff_eq] at this
  obtain ⟨h1, h2⟩ := this
  refine ⟨fun hrr => ?_, fun ha hb => ?_⟩
  · rcases h1 with ⟨a, b⟩ | h1
    · rcases hrr with hrr | hrr
      · simp at a; exact absurd hrr a
      · simp at b; exact absurd hrr b
    · exact h1
  · rcases h2 with (h2 | h2) | h2
    · omega
    · exact .inl h2
    · exact .inr h2
theorem tmpOk_spec (h : tmpOk ops = true) {i j : Nat} {x y : Oper} (hi : ops[i]? = some x) (hj : ops[j]? = some y) {d : Tmp} (hd : x.dst = some d) (hy : d ∈ y.looksAt ops ∨ y.dst = some d) : inOrd ops i j = true := by
  have := List.all_eq_true.1 (List.all_eq_true.1 h i (List.mem_range.2 (Array.getElem?_eq_some_iff.1 hi).1)) j (List.mem_range.2 (Array.getElem?_eq_some_iff.1 hj).1)
  rw [hi, hj] at this
  simp only [hd] at this
  simp only [Bool.or_eq_true, Bool.and_eq_true, Bool.not_eq_true', bne_iff_ne, ne_eq] at this
  rcases this with ⟨a, b⟩ | h
  · rcases hy with hy | hy
    · simp at a; exact absurd hy a
    · exact absurd hy b
  · exact h
theorem Tr.draws (hG : ∀ p ∈ G, CallOk P p.1 p.2) (hm : P.follows .mixedOrders = true) {tm tm' : List AV} {L L' : Nat → Blk} {outs : List (Out × FP)} (hT : Tr P G ops q0 ops.toList 0 tm L outs tm' L')
    (h1 : ordOk ops = true) (h2 : tmpOk ops = true) (h3 : fpOk ops q0 (outs.map (·.2)) = true) {a : Act} {w : World} (hB : Both S F W0 tm L q0 a w) {id : Nat} {Q : Exit → Act → World → Prop}
    (hQ : ∀ a w, Both S F W0 tm' L' (q0 + 16 * ops.size) a w → Q .normal a w) : (Code.region id ops true).wp P Q a w := by
  obtain ⟨hlen, hTm, hTL, hat⟩ := hT.at_
  have hlen' : outs.length = ops.size := by rw [hlen]; simp
  have main : ∀ (fuel : Nat) (listed : Array Bool) (a : Act) (w : World), listed.size = ops.size → Closed ops (fun j => listed.getD j false) → ((List.range ops.size).filter fun i => !listed.getD i true).length ≤ fuel →
      (∃ s Z, HR F W0 w (apL (fun j => listed.getD j false) outs 0 L) s Z ∧ TR w Z (apL (fun j => listed.getD j false) outs 0 L) s (apT (fun j => listed.getD j false) ops.toList outs 0 tm) a ∧ (∀ k, q0 + 16 * ops.size ≤ k → apL (fun j => listed.getD j false) outs 0 L k = .none) ∧ Kp S (apL (fun j => listed.getD j false) outs 0 L) s) →
      wpAny P .any ops Q fuel listed a w := by
    intro fuel
    have fin : ∀ (listed : Array Bool) (a : Act) (w : World), listed.size = ops.size → Closed ops (fun j => listed.getD j false) → Region.ready .any ops listed = [] →
        (∃ s Z, HR F W0 w (apL (fun j => listed.getD j false) outs 0 L) s Z ∧ TR w Z (apL (fun j => listed.getD j false) outs 0 L) s (apT (fun j => listed.getD j false) ops.toList outs 0 tm) a ∧ (∀ k, q0 + 16 * ops.size ≤ k → apL (fun j => listed.getD j false) outs 0 L k = .none) ∧ Kp S (apL (fun j => listed.getD j false) outs 0 L) s) →
        Q .normal a w := by
      intro listed a w hls _ hready hInv
      have hall : ∀ i, i < ops.size → listed.getD i false = true := by
        intro i
        induction i using Nat.strongRecOn with
        | _ i ih =>
          intro hi
          have hoi : ops[i]? = some ops[i] := Array.getElem?_eq_getElem hi
          obtain ⟨e1, _⟩ := ordOk_spec h1 i _ hoi
          rcases hl : listed.getD i false with _ | _
          · exfalso
            have hmem : i ∈ Region.ready .any ops listed := by
              refine List.mem_filter.2 ⟨List.mem_range.2 hi, ?_⟩
              have hlt : i < listed.size := by omega
              have hd : listed.getD i true = false := by simpa [Array.getD, hlt] using hl
              rw [hd, hoi]
              simp only [Bool.not_false, Bool.true_and, Option.map_some, Option.getD_some, Array.all_eq_true_iff_forall_mem]
              intro e he
              rcases hb : Region.binds .any e with _ | _
              · rfl
              · simp only [Bool.not_true, Bool.false_or]
                exact ih e.on (e1 e he hb) (Nat.lt_trans (e1 e he hb) hi)
            rw [hready] at hmem
            cases hmem
          · rfl
      obtain ⟨s, Z, g1, g2, g3, g4⟩ := hInv
      have eT : apT (fun j => listed.getD j false) ops.toList outs 0 tm = tm' := by
        rw [hTm]
        apply List.ext_getElem?
        intro t
        refine apT_at rfl rfl fun j o hj _ => ?_
        have := (List.getElem?_eq_some_iff.1 hj).1
        rw [Nat.zero_add]
        exact hall j (by simpa using this)
      have eL : apL (fun j => listed.getD j false) outs 0 L = L' := by
        rw [hTL]
        funext r
        refine apL_at rfl fun j p hj _ => ?_
        have := (List.getElem?_eq_some_iff.1 hj).1
        rw [Nat.zero_add]
        exact hall j (by omega)
      rw [eL] at g1 g2 g3 g4
      rw [eT] at g2
      exact hQ a w ⟨s, Z, g1, g2, g3, g4⟩
    induction fuel with
    | zero =>
      intro listed a w hls hcl hf hInv
      have hr : Region.ready .any ops listed = [] := by
        have h0 : ((List.range ops.size).filter fun i => !listed.getD i true) = [] := List.eq_nil_of_length_eq_zero (by omega)
        refine List.eq_nil_iff_forall_not_mem.2 fun i hi => ?_
        obtain ⟨k1, k2⟩ := List.mem_filter.1 hi
        rw [Bool.and_eq_true] at k2
        have : i ∈ (List.range ops.size).filter fun i => !listed.getD i true := List.mem_filter.2 ⟨k1, k2.1⟩
        rw [h0] at this
        cases this
      exact ⟨hr, fin listed a w hls hcl hr hInv⟩
    | succ fuel ih =>
      intro listed a w hls hcl hf hInv
      refine ⟨fun hr => fin listed a w hls hcl hr hInv, fun i hi => ?_⟩
      obtain ⟨k1, k2⟩ := List.mem_filter.1 hi
      have hin : i < ops.size := List.mem_range.1 k1
      rw [Bool.and_eq_true] at k2
      obtain ⟨k2, k3⟩ := k2
      have hilt : i < listed.size := by omega
      have hDi : listed.getD i false = false := by
        have : listed.getD i true = false := by simpa using k2
        simpa [Array.getD, hilt] using this
      have hoi : ops[i]? = some ops[i] := Array.getElem?_eq_getElem hin
      generalize ops[i] = o at hoi
      rw [hoi] at k3
      simp only [Option.map_some, Option.getD_some, Array.all_eq_true_iff_forall_mem] at k3
      have hedge : ∀ e ∈ o.after, Region.binds .any e = true → listed.getD e.on false = true := fun e he hb => by
        have := k3 e he
        rw [hb] at this
        simpa using this
      have hahead : ∀ k, k < ops.size → ord ops k i = true → listed.getD k false = true := by
        intro k hk hord
        obtain ⟨e1, e2⟩ := ordOk_spec h1 i o hoi
        obtain ⟨e, he, hb, h5⟩ := e2 k hk hord
        have hDe := hedge e he hb
        rcases h5 with rfl | h5
        · exact hDe
        · exact closed_ord h1 hcl e.on k hk (Nat.lt_trans (e1 e he hb) hin) hDe h5
      have hbehind : ∀ k, k < ops.size → ord ops i k = true → listed.getD k false = false := by
        intro k hk hord
        rcases hd : listed.getD k false with _ | _
        · rfl
        · have := closed_ord h1 hcl k i hin hk hd hord
          rw [hDi] at this; cases this
      have hio : ∀ k, k < ops.size → k ≠ i → inOrd ops k i = true → listed.getD k false = decide (k < i) := by
        intro k hk hne hord
        unfold inOrd at hord
        by_cases hlt : k < i
        · rw [if_pos hlt] at hord
          rw [hahead k hk hord]; simp [hlt]
        · rw [if_neg hlt, if_pos (by omega)] at hord
          rw [hbehind k hk hord]; simp [hlt]
      have hoil : ops.toList[i]? = some o := by simpa using hoi
      obtain ⟨out, m1, m2, m3, m4⟩ := hat i o hoil
      simp only [Nat.zero_add] at m1 m2 m4
      have hfi : (outs.map (·.2))[i]? = some (footO (apL (fun j => decide (j < i)) outs 0 L) o.op (o.op.operands.toList.map (evA (apT (fun j => decide (j < i)) ops.toList outs 0 tm))), out.ups.map (·.1)) := by
        rw [List.getElem?_map, m1]; rfl
      have hfj : ∀ j p, outs[j]? = some p → (outs.map (·.2))[j]? = some p.2 ∧ j < ops.size ∧ p.2.2 = p.1.ups.map (·.1) := by
        intro j p hj
        have hjl := (List.getElem?_eq_some_iff.1 hj).1
        refine ⟨by rw [List.getElem?_map, hj]; rfl, by omega, ?_⟩
        have hoj : ops.toList[j]? = some (ops[j]'(by omega)) := by simp
        obtain ⟨out', n1, _⟩ := hat j _ hoj
        rw [hj] at n1
        cases n1
        rfl
      obtain ⟨s, Z, g1, g2, g3, g4⟩ := hInv
      have hstep : stepA P G ops o (apT (fun j => listed.getD j false) ops.toList outs 0 tm) (apL (fun j => listed.getD j false) outs 0 L) (q0 + 16 * i) = some out := by
        rw [← m2]
        refine stepA_near hG (fun t ht => ?_) (fun r hr => ?_)
        · have : (apT (fun j => listed.getD j false) ops.toList outs 0 tm)[t]? = (apT (fun j => decide (j < i)) ops.toList outs 0 tm)[t]? := by
            refine apT_at rfl rfl fun j o' hj hd => ?_
            rw [Nat.zero_add]
            have hjo : ops[j]? = some o' := by simpa using hj
            have hjl := (Array.getElem?_eq_some_iff.1 hjo).1
            by_cases e : j = i
            · subst e; rw [hDi]; simp
            · exact hio j hjl e (tmpOk_spec h2 hjo hoi hd (.inl ht))
          simp only [List.getD, this]
        · refine apL_at rfl fun j p hj hp => ?_
          rw [Nat.zero_add]
          obtain ⟨f1, f2, f3⟩ := hfj j p hj
          by_cases e : j = i
          · subst e; rw [hDi]; simp
          · have f1' : (outs.map (·.2))[j]? = some (p.2.1, p.2.2) := f1
            exact hio j f2 e ((fpOk_spec h3 f1' hfi f2 hin (r := r) (by rw [f3]; exact hp)).1 (.inl hr))
      have hnew : ∀ k, q0 + 16 * i ≤ k → k < q0 + 16 * i + 16 → apL (fun j => listed.getD j false) outs 0 L k = .none := by
        intro k hk1 hk2
        have h0 : ∀ (ps : List (Out × FP)) (m : Nat) (L0 : Nat → Blk), L0 k = .none → (∀ j p, ps[j]? = some p → listed.getD (m + j) false = true → k ∉ p.1.ups.map (·.1)) → apL (fun j => listed.getD j false) ps m L0 k = .none := by
          intro ps
          induction ps with
          | nil => intro m L0 h _; simpa [apL] using h
          | cons p ps ih2 =>
            intro m L0 h hh
            simp only [apL]
            refine ih2 (m + 1) _ ?_ fun j p' hj hd => hh (j + 1) p' (by simpa using hj) (by rwa [show m + (j + 1) = m + 1 + j by omega])
            split
            · rename_i hd
              rw [ups_out (hh 0 p rfl (by rwa [Nat.add_zero]))]
              exact h
            · exact h
        obtain ⟨s0, Z0, b1, b2, b3, b4⟩ := hB
        refine h0 outs 0 L (b3 k (by omega)) fun j p hj hd hmem => ?_
        rw [Nat.zero_add] at hd
        obtain ⟨f1, f2, f3⟩ := hfj j p hj
        have f1' : (outs.map (·.2))[j]? = some (p.2.1, p.2.2) := f1
        rcases (fpOk_spec h3 f1' hfi f2 hin (r := k) (by rw [f3]; exact hmem)).2 hk1 (by omega) with e | ⟨e1, e2⟩
        · subst e; rw [hDi] at hd; cases hd
        · have := hbehind j f2 e2
          rw [this] at hd; cases hd
      refine stepA_ok hG g1 g2 hnew hoi hstep m3 fun v w' s' Z' r1 r2 r3 => ?_
      have hset : ∀ j, (listed.setIfInBounds i true).getD j false = (listed.getD j false || j == i) := by
        intro j
        by_cases e : j = i
        · subst e; simp [Array.getD, hilt]
        · have : (j == i) = false := by simpa using e
          rw [this, Bool.or_false]
          simp only [Array.getD_eq_getD_getElem?]
          rw [Array.getElem?_setIfInBounds_ne (Ne.symm e)]
      have eT : apT (fun j => (listed.setIfInBounds i true).getD j false) ops.toList outs 0 tm = putT (apT (fun j => listed.getD j false) ops.toList outs 0 tm) o.dst out.dst := by
        refine apT_more (pi := (out, _)) (Nat.zero_le _) (by simpa using hoi) m1 hDi hset fun j o' hj hlt hd d hdo hdo' => ?_
        rw [Nat.zero_add] at hlt hd
        have hjo : ops[j]? = some o' := by simpa using hj
        have := tmpOk_spec h2 hoi hjo hdo (.inr hdo')
        unfold inOrd at this
        rw [if_pos hlt] at this
        have := hbehind j (Array.getElem?_eq_some_iff.1 hjo).1 this
        rw [this] at hd; cases hd
      have eL : apL (fun j => (listed.setIfInBounds i true).getD j false) outs 0 L = ups (apL (fun j => listed.getD j false) outs 0 L) out.ups := by
        refine apL_more (pi := (out, _)) (Nat.zero_le _) m1 hDi hset fun j p hj hlt hd r hr hr' => ?_
        rw [Nat.zero_add] at hlt hd
        obtain ⟨f1, f2, f3⟩ := hfj j p hj
        have f1' : (outs.map (·.2))[j]? = some (p.2.1, p.2.2) := f1
        have := (fpOk_spec h3 hfi f1' hin f2 (r := r) hr).1 (.inr (by rw [f3]; exact hr'))
        unfold inOrd at this
        rw [if_pos hlt] at this
        have := hbehind j f2 this
        rw [this] at hd; cases hd
      refine ih _ _ _ (by simpa using hls) ?_ ?_ ⟨s', Z', by rw [eL]; exact r1, by rw [eL, eT]; exact (g2.mono r2).put r3 _, fun k hk => ?_, by rw [eL]; exact g4.ext r2⟩
      · intro j o' hj hd e he hb
        dsimp only at hd ⊢
        rw [hset] at hd ⊢
        by_cases e' : j = i
        · subst e'
          rw [hoi] at hj; cases hj
          rw [hedge e he hb]; rfl
        · have : (j == i) = false := by simpa using e'
          rw [this, Bool.or_false] at hd
          have hh : listed.getD e.on false = true := hcl j o' hj hd e he hb
          rw [hh]; rfl
      · have : ((List.range ops.size).filter fun k => !(listed.setIfInBounds i true).getD k true).length < ((List.range ops.size).filter fun k => !listed.getD k true).length := by
          refine filter_less (x0 := i) (fun x _ hx => ?_) (List.mem_range.2 hin) (by simpa using k2) (by simp [Array.getD, hilt])
          by_cases e : x = i
          · subst e; simp [Array.getD, hilt] at hx
          · simp only [Array.getD_eq_getD_getElem?] at hx ⊢
            rwa [Array.getElem?_setIfInBounds_ne (Ne.symm e)] at hx
        omega
      · rw [eL, ups_ge m4 (by omega)]
        exact g3 k hk
  refine wp_region_any hm (main ops.size _ a _ (by simp) (fun j o hj hd => ?_) (Nat.le_trans (List.length_filter_le _ _) (by simp)) ?_)
  · dsimp only at hd
    rw [Array.getD_eq_getD_getElem?, Array.getElem?_replicate] at hd
    split at hd <;> simp at hd
  · obtain ⟨s, Z, b1, b2, b3, b4⟩ := hB
    obtain ⟨c1, c2⟩ := b1.draws (w' := { w with drawn := w.drawn + 1 }) rfl rfl rfl rfl
    have hf : ∀ j, (Array.replicate ops.size false).getD j false = false := fun j => by
      rw [Array.getD_eq_getD_getElem?, Array.getElem?_replicate]
      split <;> rfl
    have hfun : (fun j => (Array.replicate ops.size false).getD j false) = fun _ => false := funext hf
    have eT : apT (fun j => (Array.replicate ops.size false).getD j false) ops.toList outs 0 tm = tm := by
      rw [hfun]
      have : ∀ (os : List Oper) (ps : List (Out × FP)) (k : Nat) (x : List AV), apT (fun _ => false) os ps k x = x := by
        intro os
        induction os with
        | nil => intro ps k x; simp [apT]
        | cons o os ih =>
          intro ps k x
          cases ps with
          | nil => simp [apT]
          | cons p ps => simp only [apT]; exact ih ps (k + 1) x
      exact this _ _ _ _
    have eL : apL (fun j => (Array.replicate ops.size false).getD j false) outs 0 L = L := by
      rw [hfun]
      have : ∀ (ps : List (Out × FP)) (k : Nat) (x : Nat → Blk), apL (fun _ => false) ps k x = x := by
        intro ps
        induction ps with
        | nil => intro k x; simp [apL]
        | cons p ps ih => intro k x; simp only [apL]; exact ih (k + 1) x
      exact this _ _ _
    refine ⟨s, Z, by rw [eL]; exact c1, by rw [eL, eT]; exact b2.mono c2, fun k hk => by rw [eL]; exact b3 k (by omega), by rw [eL]; exact b4⟩
end
end Go.Proofs.Ytkfjaeoehhakpaa
namespace Go.Proofs.Ytkfjaeoehhakpaa
open Go.RowKit
abbrev HP := List (Nat × Blk)
def lk : HP → Nat → Blk
  | [], _ => .none
  | (k, b) :: t, r => if r = k then b else lk t r
def upl : HP → Nat → Blk → HP
  | [], r, b => [(r, b)]
  | (k, x) :: t, r, b => if r = k then (k, b) :: t else (k, x) :: upl t r b
theorem lk_upl (hp : HP) (r : Nat) (b : Blk) : lk (upl hp r b) = up (lk hp) r b := by
  induction hp with
  | nil => funext k; simp [lk, upl, up]
  | cons p t ih =>
    obtain ⟨k, x⟩ := p
    funext j
    simp only [upl]
    split
    · rename_i h
      subst h
      simp only [lk, up]
      split <;> rfl
    · rename_i h
      simp only [lk]
      split
      · rename_i h2
        subst h2
        simp only [up, lk]
        rw [if_neg (fun e => h e.symm)]
        simp
      · rename_i h2
        rw [ih]
        simp [up, lk, h2]
def upsl : HP → List (Nat × Blk) → HP
  | hp, [] => hp
  | hp, p :: l => upsl (upl hp p.1 p.2) l
theorem lk_upsl (l : List (Nat × Blk)) : ∀ hp : HP, lk (upsl hp l) = ups (lk hp) l := by
  induction l with
  | nil => intro hp; rfl
  | cons p l ih => intro hp; rw [upsl, ih, lk_upl, ups]
def refn (tm : List AV) (c : Operand) (b : Bool) : List AV := match c with | .tmp t => tm.set t (.v (.bool b)) | _ => tm
def fpD (P : Program) (G : List (FuncId × Abs)) (dr : Bool) (o : Oper) (tm : List AV) (hp : HP) (out : Out) : FP := if dr then fpOf P G o tm (lk hp) out else ([], [])
inductive Gate where
  | go
  | skip
  | ask (t : Nat) (b want : Bool)
  | stuck
def gate (ds : List (Option Tmp)) (tm : List AV) : Option (Nat × Bool) → Gate
  | none => .go
  | some (j, want) => match ds.getD j none with
    | none => .skip
    | some t => match tm.getD t (.v undef) with
      | .v (.bool b) => .ask t b want
      | .v (.tuple _) => .skip
      | _ => .stuck
def boolOf : AV → Option Bool
  | .v (.bool b) => some b
  | _ => none
mutual
def vcOps (P : Program) (G : List (FuncId × Abs)) (ds : List (Option Tmp)) (dr : Bool) : List Oper → Nat → List AV → HP → List FP → (List AV → HP → List FP → Prop) → Prop
  | [], _, tm, hp, acc, K => K tm hp acc
  | o :: rest, q, tm, hp, acc, K => match gate ds tm o.guard with
    | .go => vcEx P G ds dr o rest q tm hp acc K
    | .skip => vcOps P G ds dr rest (q + 16) (putT tm o.dst (.v undef)) hp (acc ++ [fpD P G dr o tm hp ⟨True, .v undef, []⟩]) K
    | .ask t b want => if b = want then vcEx P G ds dr o rest q (tm.set t (.v (.bool want))) hp acc K
        else vcOps P G ds dr rest (q + 16) (putT (tm.set t (.v (.bool (!want)))) o.dst (.v undef)) hp (acc ++ [fpD P G dr o (tm.set t (.v (.bool (!want)))) hp ⟨True, .v undef, []⟩]) K
    | .stuck => False
termination_by l => (l.length, 0)
def vcEx (P : Program) (G : List (FuncId × Abs)) (ds : List (Option Tmp)) (dr : Bool) (o : Oper) (rest : List Oper) (q : Nat) (tm : List AV) (hp : HP) (acc : List FP) (K : List AV → HP → List FP → Prop) : Prop :=
  match o.op with
  | .pick c x y => match boolOf (evA tm c) with
    | some b => if b = true then vcOps P G ds dr rest (q + 16) (putT (refn tm c true) o.dst (evA (refn tm c true) x)) hp (acc ++ [fpD P G dr o (refn tm c true) hp ⟨True, evA (refn tm c true) x, []⟩]) K
        else vcOps P G ds dr rest (q + 16) (putT (refn tm c false) o.dst (evA (refn tm c false) y)) hp (acc ++ [fpD P G dr o (refn tm c false) hp ⟨True, evA (refn tm c false) y, []⟩]) K
    | none => False
  | op => match oOp P G op (evA tm) (lk hp) q with
    | some out => out.c ∧ (out.ups.all fun p => decide (p.1 < q + 16)) = true ∧ vcOps P G ds dr rest (q + 16) (putT tm o.dst out.dst) (upsl hp out.ups) (acc ++ [fpD P G dr o tm hp out]) K
    | none => False
termination_by (rest.length, 1)
end
def drawOk (ops : Array Oper) (q0 : Nat) (fps : List FP) : Bool := ordOk ops && (tmpOk ops && fpOk ops q0 fps)
def dstsOf (l : List Oper) : List (Option Tmp) := l.map (·.dst)
section
variable {P : Program} {G : List (FuncId × Abs)} {ops : Array Oper} {q0 : Nat}
theorem set_same {tm : List AV} {t : Nat} {x : AV} (h : tm.getD t (.v undef) = x) (hx : ∀ y, x ≠ .v (.tuple y)) : tm.set t x = tm := by
  by_cases ht : t < tm.length
  · have : tm[t] = x := by simpa [List.getD, List.getElem?_eq_getElem ht] using h
    rw [← this]
    exact List.set_getElem_self ht
  · have : tm.getD t (.v undef) = .v undef := by simp [List.getD, List.getElem?_eq_none (Nat.le_of_not_lt ht)]
    rw [this] at h
    exact absurd h.symm (hx #[])
theorem dsts_at (j : Nat) : (dstsOf ops.toList).getD j none = (ops[j]?).bind (·.dst) := by
  simp only [dstsOf, List.getD, List.getElem?_map, Array.getElem?_toList]
  cases ops[j]? <;> rfl
theorem boolOf_eq {x : AV} {b : Bool} (h : boolOf x = some b) : x = .v (.bool b) := by
  unfold boolOf at h
  split at h
  · simp at h; subst h; rfl
  · cases h
theorem gate_run {tm : List AV} {g : Option (Nat × Bool)} : match gate (dstsOf ops.toList) tm g with
    | .go => guardA ops tm g = some true
    | .skip => guardA ops tm g = some false
    | .ask t b want => guardA ops tm g = some (b == want) ∧ tm.getD t (.v undef) = .v (.bool b)
    | .stuck => True := by
  unfold gate guardA
  split
  · rename_i h
    split at h
    · rfl
    · rename_i j want
      rw [dsts_at] at h
      split at h
      · cases h
      · split at h <;> cases h
  · rename_i h
    split at h
    · cases h
    · rename_i j want
      rw [dsts_at] at h
      try dsimp only
      split at h
      · rename_i hd; first | rw [hd] | rfl
      · rename_i t hd
        try rw [hd]
        try dsimp only
        split at h
        · cases h
        · rename_i hy; first | rw [hy] | rfl
        · cases h
  · rename_i t b want h
    split at h
    · cases h
    · rename_i j want'
      rw [dsts_at] at h
      try dsimp only
      split at h
      · cases h
      · rename_i t' hd
        try rw [hd]
        try dsimp only
        split at h
        · rename_i b' hb
          cases h
          try rw [hb]
          first | exact ⟨rfl, rfl⟩ | exact ⟨rfl, hb⟩
        · cases h
        · cases h
  · trivial
theorem refn_same {tm : List AV} {c : Operand} {b : Bool} (hb : evA tm c = .v (.bool b)) : refn tm c b = tm := by
  unfold refn
  split
  · rename_i t
    exact set_same hb (by simp)
  · rfl
theorem vcOps_run {dr : Bool} : ∀ (l : List Oper) (k q : Nat) (tm : List AV) (hp : HP) (acc : List FP) (K : List AV → HP → List FP → Prop), q = q0 + 16 * k → vcOps P G (dstsOf ops.toList) dr l q tm hp acc K →
    ∃ outs tm' hp', Tr P G ops q0 l k tm (lk hp) outs tm' (lk hp') ∧ ∃ fps, K tm' hp' fps ∧ (dr = true → fps = acc ++ outs.map (·.2))
  | [], k, q, tm, hp, acc, K, hq, h => by
    rw [vcOps] at h
    exact ⟨[], tm, hp, ⟨rfl, rfl, rfl⟩, acc, h, fun _ => by simp⟩
  | o :: l, k, q, tm, hp, acc, K, hq, h => by
    subst hq
    have one : ∀ (out : Out), stepA P G ops o tm (lk hp) (q0 + 16 * k) = some out → out.c → (out.ups.all fun p => decide (p.1 < q0 + 16 * k + 16)) = true →
        vcOps P G (dstsOf ops.toList) dr l (q0 + 16 * k + 16) (putT tm o.dst out.dst) (upsl hp out.ups) (acc ++ [fpD P G dr o tm hp out]) K →
        ∃ outs tm' hp', Tr P G ops q0 (o :: l) k tm (lk hp) outs tm' (lk hp') ∧ ∃ fps, K tm' hp' fps ∧ (dr = true → fps = acc ++ outs.map (·.2)) := by
      intro out h1 h2 h3 h4
      obtain ⟨outs, tm', hp', g1, fps, g2, g3⟩ := vcOps_run l (k + 1) _ _ _ _ _ (by omega) h4
      refine ⟨(out, fpOf P G o tm (lk hp) out) :: outs, tm', hp', ⟨out, outs, rfl, h1, h2, (by rw [show q0 + 16 * (k + 1) = q0 + 16 * k + 16 by omega]; exact h3), by rw [← lk_upsl]; exact g1⟩, fps, g2, fun hdr => ?_⟩
      rw [g3 hdr]
      simp [fpD, hdr]
    have skip : guardA ops tm o.guard = some false → vcOps P G (dstsOf ops.toList) dr l (q0 + 16 * k + 16) (putT tm o.dst (.v undef)) hp (acc ++ [fpD P G dr o tm hp ⟨True, .v undef, []⟩]) K →
        ∃ outs tm' hp', Tr P G ops q0 (o :: l) k tm (lk hp) outs tm' (lk hp') ∧ ∃ fps, K tm' hp' fps ∧ (dr = true → fps = acc ++ outs.map (·.2)) :=
      fun hg h => one ⟨True, .v undef, []⟩ (by unfold stepA; rw [hg]) trivial rfl h
    have go : guardA ops tm o.guard = some true → vcEx P G (dstsOf ops.toList) dr o l (q0 + 16 * k) tm hp acc K →
        ∃ outs tm' hp', Tr P G ops q0 (o :: l) k tm (lk hp) outs tm' (lk hp') ∧ ∃ fps, K tm' hp' fps ∧ (dr = true → fps = acc ++ outs.map (·.2)) := by
      intro hg h
      rw [vcEx] at h
      split at h
      · rename_i c x y hop
        split at h
        · rename_i b hb
          have hb := boolOf_eq hb
          split at h
          · rename_i e
            subst e
            rw [refn_same hb] at h
            exact one ⟨True, evA tm x, []⟩ (by unfold stepA; rw [hg]; simp only [hop, hb]; rfl) trivial rfl h
          · rename_i e
            have e : b = false := by simpa using e
            subst e
            rw [refn_same hb] at h
            exact one ⟨True, evA tm y, []⟩ (by unfold stepA; rw [hg]; simp only [hop, hb]; rfl) trivial rfl h
        · exact h.elim
      · rename_i hop
        split at h
        · rename_i out ho
          refine one out ?_ h.1 h.2.1 h.2.2
          unfold stepA
          rw [hg]
          split
          · rename_i e; cases e
          · rename_i e; cases e
          · split
            · rename_i c x y he; exact absurd he (hop c x y)
            · exact ho
        · exact h.elim
    rw [vcOps] at h
    have hgate := gate_run (ops := ops) (tm := tm) (g := o.guard)
    split at h
    · rename_i e; rw [e] at hgate; exact go hgate h
    · rename_i e; rw [e] at hgate; exact skip hgate h
    · rename_i t b want e
      rw [e] at hgate
      obtain ⟨h1, h2⟩ := hgate
      split at h
      · rename_i hb
        subst hb
        rw [set_same h2 (by simp)] at h
        exact go (by rw [h1, beq_self_eq_true]) h
      · rename_i hb
        have e' : (!want) = b := by cases b <;> cases want <;> simp_all
        rw [e', set_same h2 (by simp)] at h
        exact skip (by rw [h1, beq_eq_false_iff_ne.2 hb]) h
    · exact h.elim
theorem Tr.seq : ∀ {l : List Oper} {k : Nat} {tm tm' : List AV} {L L' : Nat → Blk} {outs : List (Out × FP)}, Tr P G ops q0 l k tm L outs tm' L' → SeqA P G ops q0 l k tm L (fun a b => a = tm' ∧ b = L')
  | [], _, _, _, _, _, _, ⟨_, h2, h3⟩ => ⟨h2.symm, h3.symm⟩
  | _ :: _, _, _, _, _, _, _, ⟨out, _, _, h1, h2, h3, h4⟩ => ⟨out, h1, h2, h3, Tr.seq h4⟩
theorem vcOps_ok {S : List (Nat × Value)} {F : Nat → Prop} {W0 : Ent} (hG : ∀ p ∈ G, CallOk P p.1 p.2) (hm : P.follows .mixedOrders = true) {dr : Bool} {tm : List AV} {hp : HP} {a : Act} {w : World} {id : Nat} {K : List AV → HP → Prop} {Q : Exit → Act → World → Prop}
    (h : vcOps P G (dstsOf ops.toList) dr ops.toList q0 tm hp [] fun tm' hp' fps => (if dr then drawOk ops q0 fps = true else True) ∧ K tm' hp') (hB : Both S F W0 tm (lk hp) q0 a w)
    (hQ : ∀ tm' hp' a w, K tm' hp' → Both S F W0 tm' (lk hp') (q0 + 16 * ops.size) a w → Q .normal a w) : (Code.region id ops dr).wp P Q a w := by
  obtain ⟨outs, tm', hp', h1, fps, ⟨h2, h3⟩, h4⟩ := vcOps_run (q0 := q0) _ 0 _ _ _ _ _ (by omega) h
  cases dr with
  | true =>
    simp only [if_true, drawOk, Bool.and_eq_true] at h2
    obtain ⟨k1, k2, k3⟩ := h2
    rw [h4 rfl, List.nil_append] at k3
    exact Tr.draws hG hm h1 k1 k2 k3 hB fun a w hb => hQ tm' hp' a w h3 hb
  | false =>
    refine wp_region ?_
    have := SeqA.wp hG (Q := Q) (K := fun a b => a = tm' ∧ b = lk hp') (F := F) (W0 := W0) (fun tm2 L2 a w hk hb => ?_) ops.toList 0 tm (lk hp) a w (by simp) (Nat.zero_le _) h1.seq hB
    · rw [List.range_eq_range']
      simpa using this
    · obtain ⟨rfl, rfl⟩ := hk
      exact hQ _ hp' a w h3 hb
end
end Go.Proofs.Ytkfjaeoehhakpaa
namespace Go.Proofs.Ytkfjaeoehhakpaa
open Go.RowKit
def nilS : Value := .slice none 0 0
def AV.ren (f : Nat → Option Nat) : AV → AV
  | .own r => match f r with | some q => .own q | none => .v nilS
  | .sub r lo hi => match f r with | some q => .sub q lo hi | none => .any
  | .ptr r o => match f r with | some q => .ptr q o | none => .any
  | .eptr r i j => match f r with | some q => .eptr q i j | none => .any
  | .agg cs => .agg (renL f cs)
  | .tup cs => .tup (renL f cs)
  | .v x => .v x
  | .l sz rows => .l sz rows
  | .rptr cs => .rptr cs
  | .any => .any
  | .mute => .mute
where renL (f : Nat → Option Nat) : List AV → List AV
  | [] => []
  | c :: cs => AV.ren f c :: renL f cs
def Blk.ren (f : Nat → Option Nat) : Blk → Blk
  | .var T cs => .var T (AV.ren.renL f cs)
  | b => b
def AV.pids : AV → List Nat
  | .sub r _ _ | .ptr r _ | .eptr r _ _ => [r]
  | .agg cs => pidsL cs
  | .tup cs => pidsL cs
  | _ => []
where pidsL : List AV → List Nat
  | [] => []
  | c :: cs => AV.pids c ++ pidsL cs
def rn : List (Nat × Option Nat) → Nat → Option Nat
  | [], r => some r
  | (a, b) :: t, r => if r = a then b else rn t r
def blkPids : Blk → List Nat
  | .var _ cs => AV.pids.pidsL cs
  | _ => []
theorem renL_map (f : Nat → Option Nat) : ∀ cs : List AV, AV.ren.renL f cs = cs.map (AV.ren f)
  | [] => rfl
  | c :: cs => by rw [AV.ren.renL, renL_map f cs]; rfl
def fit1 (f : Nat → Option Nat) (ks : List Nat) (x y : AV) : Prop :=
  match y with
  | .any => True
  | y => x = y.ren f ∧ (y.ids.all fun r => ks.contains r) = true ∧ (y.pids.all fun r => (f r).isSome) = true
def fitT (f : Nat → Option Nat) (ks : List Nat) : List AV → List AV → Prop
  | [], [] => True
  | x :: xs, y :: ys => fit1 f ks x y ∧ fitT f ks xs ys
  | _, _ => False
def emptyB : Blk → Prop
  | .sl _ sz rows => 0 < sz ∧ rows = []
  | .tr .whole _ sz cols rows => 0 < sz ∧ rows = [] ∧ cols.length = sz
  | _ => False
def Blk.there : Blk → Bool
  | .none => false
  | .tr (.hole _ _ _) _ _ _ _ => false
  | _ => true
def nilC : TK → D → D → Prop
  | .cell, a, b => a = b ∧ ∃ x, b = .v x
  | .sl _ sz cols, a, b => a = .v nilS ∧ b = .l sz [] ∧ 0 < sz ∧ cols.length = sz
structure SeenAs (sz : Nat) (cols : List TK) (rows0 rows : List (List D)) : Prop where
  hc : cols.length = sz
  hl : rows0.length = rows.length
  hr : ∀ r ∈ rows, r.length = sz
  hz : ∀ i j d k, rowAt rows i j = some d → cols[j]? = some k → ∃ d0, rowAt rows0 i j = some d0 ∧ nilC k d0 d
theorem SeenAs.nil {sz : Nat} {cols : List TK} (h : cols.length = sz) : SeenAs sz cols [] [] := ⟨h, rfl, fun r hr => by simp at hr, fun i j d k h => by simp [rowAt] at h⟩
def trE (B0 : Blk) : Blk → Prop
  | .off e sz rows => B0 = .sl e sz rows ∧ 0 < rows.length
  | .tr .whole e sz cols rows => (B0 = .sl e sz [] ∧ rows = [] ∧ cols.length = sz) ∨ ∃ rows0, B0 = .sl e sz rows0 ∧ SeenAs sz cols rows0 rows
  | _ => False
def fitB (f : Nat → Option Nat) (hp : HP) (r : Nat) (b : Blk) : Prop :=
  match f r with
  | some q => lk hp q = b.ren f ∨ trE (lk hp q) b
  | none => emptyB b
def fitH (f : Nat → Option Nat) (ks : List Nat) (hp : HP) : HP → Prop
  | [] => True
  | (r, b) :: t => fitB f hp r b ∧ ((blkIds b).all fun r => ks.contains r) = true ∧ ((blkPids b).all fun r => (f r).isSome) = true ∧ b.there = true ∧ fitH f ks hp t
structure Fits (tm : List AV) (hp : HP) (tm' : List AV) (hp' : HP) (p : List (Nat × Option Nat)) : Prop where
  t : fitT (rn p) (hp'.map (·.1)) tm tm'
  h : fitH (rn p) (hp'.map (·.1)) hp hp'
  inj : (hp'.filterMap fun x => rn p x.1).Nodup
section
variable {P : Program} {w : World} {Z : Nat → Prop} {L L' : Nat → Blk} {s : Nat → Value} {F : Nat → Prop} {W0 : Ent}
theorem lk_mem {hp : HP} {r : Nat} (h : r ∉ hp.map (·.1)) : lk hp r = .none := by
  induction hp with
  | nil => rfl
  | cons p t ih =>
    simp only [List.map_cons, List.mem_cons, not_or] at h
    simp only [lk]
    rw [if_neg h.1, ih h.2]
def Ren (f : Nat → Option Nat) (L L' : Nat → Blk) : Prop := ∀ r, L' r = .none ∨ (∃ q, f r = some q ∧ L q = (L' r).ren f) ∨ (f r = none ∧ ((∃ e sz, 0 < sz ∧ L' r = .sl e sz []) ∨ ∃ e sz cols, 0 < sz ∧ cols.length = sz ∧ L' r = .tr .whole e sz cols []))
def Retag (L L1 : Nat → Blk) : Prop := ∀ r, L1 r = L r ∨ ∃ e sz cols rows0 rows, (L r = .sl e sz rows0 ∧ L1 r = .tr .whole e sz cols rows ∧ SeenAs sz cols rows0 rows) ∨ (L r = .sl e sz rows ∧ L1 r = .off e sz rows ∧ 0 < rows.length)
def sRen (f : Nat → Option Nat) (s : Nat → Value) : Nat → Value := fun r => match f r with | some q => s q | none => nilS
theorem memL : ∀ (cs : List AV) (r : Nat), r ∈ AV.ids.idsL cs ↔ ∃ x ∈ cs, r ∈ x.ids := by
  intro l r
  induction l with
  | nil => simp [AV.ids.idsL]
  | cons x l ih => rw [idsL_cons, List.mem_append, ih]; simp
theorem memP : ∀ (cs : List AV) (r : Nat), r ∈ AV.pids.pidsL cs ↔ ∃ x ∈ cs, r ∈ x.pids := by
  intro l r
  induction l with
  | nil => simp [AV.pids.pidsL]
  | cons x l ih => rw [AV.pids.pidsL, List.mem_append, ih]; simp
theorem AVR.renamed {f : Nat → Option Nat} (hR : Ren f L L') {x : Value} {z : AV} (h : AVR w Z L s z x) : ∀ {y : AV}, y.ren f = z → (∀ r ∈ y.ids, L' r ≠ .none) → (∀ r ∈ y.pids, f r ≠ none) → AVR w Z L' (sRen f s) y x := by
  have at_ : ∀ r q, L' r ≠ .none → f r = some q → L q = (L' r).ren f := fun r q hn hq => by
    rcases hR r with h | ⟨q', h1, h2⟩ | ⟨h1, _⟩
    · exact absurd h hn
    · rw [hq] at h1; cases h1; exact h2
    · rw [hq] at h1; cases h1
  have sl : ∀ r q e sz rows, L' r ≠ .none → f r = some q → L q = .sl e sz rows → L' r = .sl e sz rows := fun r q e sz rows hn hq h => by
    have := at_ r q hn hq
    rw [h] at this
    cases hb : L' r <;> rw [hb] at this <;> simp [Blk.ren] at this ⊢
    exact ⟨this.1.symm, this.2.1.symm, this.2.2.symm⟩
  have still : ∀ r q sz rows, L' r ≠ .none → f r = some q → L q = .still sz rows → L' r = .still sz rows := fun r q sz rows hn hq h => by
    have := at_ r q hn hq
    rw [h] at this
    cases hb : L' r <;> rw [hb] at this <;> simp [Blk.ren] at this ⊢
    exact ⟨this.1.symm, this.2.symm⟩
  have tr : ∀ r q st e sz cols rows, L' r ≠ .none → f r = some q → L q = .tr st e sz cols rows → L' r = .tr st e sz cols rows := fun r q st e sz cols rows hn hq h => by
    have := at_ r q hn hq
    rw [h] at this
    cases hb : L' r <;> rw [hb] at this <;> simp [Blk.ren] at this ⊢
    exact ⟨this.1.symm, this.2.1.symm, this.2.2.1.symm, this.2.2.2.1.symm, this.2.2.2.2.symm⟩
  have off : ∀ r q e sz rows, L' r ≠ .none → f r = some q → L q = .off e sz rows → L' r = .off e sz rows := fun r q e sz rows hn hq h => by
    have := at_ r q hn hq
    rw [h] at this
    cases hb : L' r <;> rw [hb] at this <;> simp [Blk.ren] at this ⊢
    exact ⟨this.1.symm, this.2.1.symm, this.2.2.symm⟩
  have dead : ∀ r q, L' r ≠ .none → f r = some q → L q = .dead → L' r = .dead := fun r q hn hq h => by
    have := at_ r q hn hq
    rw [h] at this
    cases hb : L' r <;> rw [hb] at this <;> simp [Blk.ren] at this ⊢
  have var : ∀ r q T cs, L' r ≠ .none → f r = some q → L q = .var T cs → ∃ cs', L' r = .var T cs' := fun r q T cs hn hq h => by
    have := at_ r q hn hq
    rw [h] at this
    cases hb : L' r <;> rw [hb] at this <;> simp [Blk.ren] at this ⊢
    exact this.1.symm
  have sv : ∀ r q, f r = some q → sRen f s r = s q := fun r q hq => by simp [sRen, hq]
  have own : ∀ (y : AV) q, y.ren f = .own q → ∃ r, y = .own r ∧ f r = some q := by
    intro y q hy
    cases y <;> simp only [AV.ren] at hy <;> (try (cases hy; done)) <;> (split at hy <;> cases hy)
    exact ⟨_, rfl, by assumption⟩
  have vv : ∀ (y : AV) x, y.ren f = .v x → y = .v x ∨ ∃ r, y = .own r ∧ f r = none ∧ x = nilS := by
    intro y x hy
    cases y <;> simp only [AV.ren] at hy <;> (try (cases hy; done)) <;> (try (cases hy; exact .inl rfl)) <;> (split at hy <;> cases hy)
    exact .inr ⟨_, rfl, by assumption, rfl⟩
  have sub : ∀ (y : AV) q lo hi, y.ren f = .sub q lo hi → ∃ r, y = .sub r lo hi ∧ f r = some q := by
    intro y q lo hi hy
    cases y <;> simp only [AV.ren] at hy <;> (try (cases hy; done)) <;> (split at hy <;> cases hy)
    exact ⟨_, rfl, by assumption⟩
  have ptr : ∀ (y : AV) q o, y.ren f = .ptr q o → ∃ r, y = .ptr r o ∧ f r = some q := by
    intro y q o hy
    cases y <;> simp only [AV.ren] at hy <;> (try (cases hy; done)) <;> (split at hy <;> cases hy)
    exact ⟨_, rfl, by assumption⟩
  have eptr : ∀ (y : AV) q i j, y.ren f = .eptr q i j → ∃ r, y = .eptr r i j ∧ f r = some q := by
    intro y q i j hy
    cases y <;> simp only [AV.ren] at hy <;> (try (cases hy; done)) <;> (split at hy <;> cases hy)
    exact ⟨_, rfl, by assumption⟩
  induction h with
  | any x =>
    intro y hz hy hp
    cases y <;> simp only [AV.ren] at hz <;> (try (cases hz; done))
    case own r => split at hz <;> cases hz
    case sub r lo hi => split at hz <;> cases hz; rename_i h; exact absurd h (hp r (by simp [AV.pids]))
    case ptr r o => split at hz <;> cases hz; rename_i h; exact absurd h (hp r (by simp [AV.pids]))
    case eptr r i j => split at hz <;> cases hz; rename_i h; exact absurd h (hp r (by simp [AV.pids]))
    exact .any x
  | v x =>
    intro y hz hy hp
    rcases vv y x hz with rfl | ⟨r, rfl, hr, rfl⟩
    · exact .v x
    · rcases hR r with h | ⟨q, h, _⟩ | ⟨_, ⟨e, sz, h0, h⟩ | ⟨e, sz, cols, h0, hcl, h⟩⟩
      · exact absurd h (hy r (by simp [AV.ids]))
      · rw [hr] at h; cases h
      · exact .own r _ e sz [] h (by simp [sRen, hr]) ⟨none, 0, by simp [sRen, hr, nilS]⟩
      · exact .ownTr r _ .whole e sz cols [] h (by simp [sRen, hr]) ⟨none, 0, by simp [sRen, hr, nilS]⟩
  | mute x h =>
    intro y hz hy hp
    cases y <;> simp only [AV.ren] at hz <;> (try (cases hz; done)) <;> (try (split at hz <;> cases hz; done))
    exact .mute x h
  | l sz rows x h =>
    intro y hz hy hp
    cases y <;> simp only [AV.ren] at hz <;> (try (cases hz; done)) <;> (try (split at hz <;> cases hz; done))
    cases hz
    exact .l _ _ _ h
  | own q x e sz rows h hx hn =>
    intro y hz hy hp
    obtain ⟨r, rfl, hr⟩ := own y q hz
    exact .own _ x e sz rows (sl _ _ _ _ _ (hy r (by simp [AV.ids])) hr h) (by rw [sv r q hr]; exact hx) (by rw [sv r q hr]; exact hn)
  | ownOff q x e sz rows h hx hn =>
    intro y hz hy hp
    obtain ⟨r, rfl, hr⟩ := own y q hz
    exact .ownOff _ x e sz rows (off _ _ _ _ _ (hy r (by simp [AV.ids])) hr h) (by rw [sv r q hr]; exact hx) (by rw [sv r q hr]; exact hn)
  | eptrOff q i j x e sz rows h g o n c hs hx =>
    intro y hz hy hp
    obtain ⟨r, rfl, hr⟩ := eptr y q i j hz
    exact .eptrOff _ _ _ x e sz rows (off _ _ _ _ _ (hy r (by simp [AV.ids])) hr h) g o n c (by rw [sv r q hr]; exact hs) hx
  | ownTr q x st e sz cols rows h hx hn =>
    intro y hz hy hp
    obtain ⟨r, rfl, hr⟩ := own y q hz
    exact .ownTr _ x st e sz cols rows (tr _ _ _ _ _ _ _ (hy r (by simp [AV.ids])) hr h) (by rw [sv r q hr]; exact hx) (by rw [sv r q hr]; exact hn)
  | subTr q lo hi x st e sz cols rows h h1 h2 A n c hx hn hc hA =>
    intro y hz hy hp
    obtain ⟨r, rfl, hr⟩ := sub y q lo hi hz
    exact .subTr _ _ _ x st e sz cols rows (tr _ _ _ _ _ _ _ (hy r (by simp [AV.ids])) hr h) h1 h2 A n c hx hn hc (by rw [sv r q hr]; exact hA)
  | eptrTr q i j x st e sz cols rows h g o n c hs hx =>
    intro y hz hy hp
    obtain ⟨r, rfl, hr⟩ := eptr y q i j hz
    exact .eptrTr _ _ _ x st e sz cols rows (tr _ _ _ _ _ _ _ (hy r (by simp [AV.ids])) hr h) g o n c (by rw [sv r q hr]; exact hs) hx
  | subOff q lo hi x e sz rows h h1 h2 A n c hx hn hc hA =>
    intro y hz hy hp
    obtain ⟨r, rfl, hr⟩ := sub y q lo hi hz
    exact .subOff _ _ _ x e sz rows (off _ _ _ _ _ (hy r (by simp [AV.ids])) hr h) h1 h2 A n c hx hn hc (by rw [sv r q hr]; exact hA)
  | ownStill q x sz rows h hx ho =>
    intro y hz hy hp
    obtain ⟨r, rfl, hr⟩ := own y q hz
    exact .ownStill _ x sz rows (still _ _ _ _ (hy r (by simp [AV.ids])) hr h) (by rw [sv r q hr]; exact hx) ho
  | ownDead q x h ho =>
    intro y hz hy hp
    obtain ⟨r, rfl, hr⟩ := own y q hz
    exact .ownDead _ x (dead _ _ (hy r (by simp [AV.ids])) hr h) ho
  | sub q lo hi x e sz rows h h1 h2 A n c hx hn hc hA =>
    intro y hz hy hp
    obtain ⟨r, rfl, hr⟩ := sub y q lo hi hz
    exact .sub _ _ _ x e sz rows (sl _ _ _ _ _ (hy r (by simp [AV.ids])) hr h) h1 h2 A n c hx hn hc (by rw [sv r q hr]; exact hA)
  | subStill q lo hi x sz rows h h1 h2 hx =>
    intro y hz hy hp
    obtain ⟨r, rfl, hr⟩ := sub y q lo hi hz
    exact .subStill _ _ _ x sz rows (still _ _ _ _ (hy r (by simp [AV.ids])) hr h) h1 h2 hx
  | subDead q lo hi x h ho =>
    intro y hz hy hp
    obtain ⟨r, rfl, hr⟩ := sub y q lo hi hz
    exact .subDead _ _ _ x (dead _ _ (hy r (by simp [AV.ids])) hr h) ho
  | ptr q off x T cs h g hs hx =>
    intro y hz hy hp
    obtain ⟨r, rfl, hr⟩ := ptr y q off hz
    obtain ⟨cs', h'⟩ := var _ _ _ _ (hy r (by simp [AV.ids])) hr h
    exact .ptr _ _ x T cs' h' g (by rw [sv r q hr]; exact hs) hx
  | ptrDead q off x h ho =>
    intro y hz hy hp
    obtain ⟨r, rfl, hr⟩ := ptr y q off hz
    exact .ptrDead _ _ x (dead _ _ (hy r (by simp [AV.ids])) hr h) ho
  | eptr q i j x e sz rows h g o n c hs hx =>
    intro y hz hy hp
    obtain ⟨r, rfl, hr⟩ := eptr y q i j hz
    exact .eptr _ _ _ x e sz rows (sl _ _ _ _ _ (hy r (by simp [AV.ids])) hr h) g o n c (by rw [sv r q hr]; exact hs) hx
  | eptrStill q i j x sz rows h ho =>
    intro y hz hy hp
    obtain ⟨r, rfl, hr⟩ := eptr y q i j hz
    exact .eptrStill _ _ _ x sz rows (still _ _ _ _ (hy r (by simp [AV.ids])) hr h) ho
  | eptrDead q i j x h ho =>
    intro y hz hy hp
    obtain ⟨r, rfl, hr⟩ := eptr y q i j hz
    exact .eptrDead _ _ _ x (dead _ _ (hy r (by simp [AV.ids])) hr h) ho
  | rptr cells b off u h1 h2 h3 =>
    intro y hz hy hp
    cases y <;> simp only [AV.ren] at hz <;> (try (cases hz; done)) <;> (try (split at hz <;> cases hz; done))
    cases hz
    exact .rptr _ b off u h1 h2 h3
  | agg cs vs hl _ ih =>
    intro y hz hy hp
    cases y <;> simp only [AV.ren] at hz <;> (try (cases hz; done)) <;> (try (split at hz <;> cases hz; done))
    rename_i cs'
    cases hz
    rw [renL_map] at hl
    refine .agg _ vs (by simpa using hl) fun i a b ha hb => ?_
    have hm : a ∈ cs' := List.mem_of_getElem? ha
    exact ih i (a.ren f) b (by rw [renL_map, List.getElem?_map, ha]; rfl) hb rfl (fun r hr => hy r (by simp only [AV.ids]; exact (memL _ _).2 ⟨a, hm, hr⟩)) (fun r hr => hp r (by simp only [AV.pids]; exact (memP _ _).2 ⟨a, hm, hr⟩))
  | tup cs vs hl _ ih =>
    intro y hz hy hp
    cases y <;> simp only [AV.ren] at hz <;> (try (cases hz; done)) <;> (try (split at hz <;> cases hz; done))
    rename_i cs'
    cases hz
    rw [renL_map] at hl
    refine .tup _ vs (by simpa using hl) fun i a b ha hb => ?_
    have hm : a ∈ cs' := List.mem_of_getElem? ha
    exact ih i (a.ren f) b (by rw [renL_map, List.getElem?_map, ha]; rfl) hb rfl (fun r hr => hy r (by simp only [AV.ids]; exact (memL _ _).2 ⟨a, hm, hr⟩)) (fun r hr => hp r (by simp only [AV.pids]; exact (memP _ _).2 ⟨a, hm, hr⟩))
theorem BlkR.renamed {f : Nat → Option Nat} (hR : Ren f L L') {v : Value} {b : Blk} (hh : b.there = true) (hb : ∀ r ∈ blkIds b, L' r ≠ .none) (hp : ∀ r ∈ blkPids b, f r ≠ none) (h : BlkR w Z L s (b.ren f) v) : BlkR w Z L' (sRen f s) b v := by
  cases b with
  | none => trivial
  | dead => trivial
  | var T cs =>
    obtain ⟨g, vs, h1, h2, h3, h4⟩ := h
    refine ⟨g, vs, h1, h2, by rw [h3, renL_map, List.length_map], fun i x y hx hy => ?_⟩
    obtain ⟨k1, k2⟩ := h4 i (x.ren f) y (by rw [renL_map, List.getElem?_map, hx]; rfl) hy
    have hm := List.mem_of_getElem? hx
    exact ⟨k1.renamed hR rfl (fun r hr => hb r (by simp only [blkIds]; exact (memL _ _).2 ⟨x, hm, hr⟩)) (fun r hr => hp r (by simp only [blkPids]; exact (memP _ _).2 ⟨x, hm, hr⟩)), k2⟩
  | sl e sz rows => exact h
  | still sz rows => exact h
  | off e sz rows => exact h
  | tr st e sz cols rows =>
    obtain ⟨xs, u, h1, -⟩ := h
    exact ⟨xs, u, h1, fun i j q hq => by subst hq; cases hh⟩
theorem tree_nil {ex : Nat → Nat → Bool} {e : TypeId} {sz : Nat} {cols : List TK} {v : Value} {xs : List Value} (h0 : 0 < sz) (hc : cols.length = sz) (ho : ownsAt w e sz v 0 xs) : Tree w ex e sz cols [] v xs (fun _ _ => .bool false) := by
  have no : ∀ i j d, ¬ rowAt ([] : List (List D)) i j = some d := fun i j d h => by simp [rowAt] at h
  exact ⟨h0, hc, fun r hr => by simp at hr, ho, fun i j d h => (no i j d h).elim, fun i j d h => (no i j d h).elim, fun i j d k _ h => (no i j d h).elim, fun i j d k g _ h => (no i j d h).elim, fun i j d k i' j' d' k' g _ _ h => (no i j d h).elim⟩
theorem AVR.retag {L1 : Nat → Blk} (hR : Retag L L1) {a : AV} {x : Value} (h : AVR w Z L s a x) : AVR w Z L1 s a x := by
  have same : ∀ r B, L r = B → (∀ e sz rows, B ≠ .sl e sz rows) → L1 r = B := fun r B hB hn => by
    rcases hR r with h | ⟨e, sz, cols, rows0, rows, ⟨h1, -, -⟩ | ⟨h1, -⟩⟩
    · rw [h, hB]
    · exact absurd (hB.symm.trans h1) (hn e sz rows0)
    · exact absurd (hB.symm.trans h1) (hn e sz rows)
  have sl : ∀ r e sz rows, L r = .sl e sz rows → L1 r = .sl e sz rows ∨ (∃ cols rows', L1 r = .tr .whole e sz cols rows' ∧ rows.length = rows'.length) ∨ L1 r = .off e sz rows := fun r e sz rows hB => by
    rcases hR r with h | ⟨e', sz', cols, rows0, rows', ⟨h1, h2, h3⟩ | ⟨h1, h2, -⟩⟩
    · exact .inl (by rw [h, hB])
    · rw [hB] at h1; cases h1; exact .inr (.inl ⟨cols, rows', h2, h3.hl⟩)
    · rw [hB] at h1; cases h1; exact .inr (.inr h2)
  induction h with
  | any x => exact .any x
  | mute x h => exact .mute x h
  | v x => exact .v x
  | l sz rows x h => exact .l sz rows x h
  | own r x e sz rows h hx hn =>
    rcases sl _ _ _ _ h with k | ⟨cols, rows', k, hlen⟩ | k
    · exact .own r x e sz rows k hx hn
    · exact .ownTr r x _ e sz cols rows' k hx (by rw [← hlen]; exact hn)
    · exact .ownOff r x e sz rows k hx hn
  | ownTr r x st e sz cols rows h hx hn => exact .ownTr r x st e sz cols rows (same _ _ h (by intro _ _ _ hc; cases hc)) hx hn
  | ownOff r x e sz rows h hx hn => exact .ownOff r x e sz rows (same _ _ h (by intro _ _ _ hc; cases hc)) hx hn
  | ownStill r x sz rows h hx ho => exact .ownStill r x sz rows (same _ _ h (by intro _ _ _ hc; cases hc)) hx ho
  | ownDead r x h ho => exact .ownDead r x (same _ _ h (by intro _ _ _ hc; cases hc)) ho
  | sub r lo hi x e sz rows h h1 h2 A n c hx hn hc hA =>
    rcases sl _ _ _ _ h with k | ⟨cols, rows', k, hlen⟩ | k
    · exact .sub r lo hi x e sz rows k h1 h2 A n c hx hn hc hA
    · exact .subTr r lo hi x _ e sz cols rows' k h1 (by rw [← hlen]; exact h2) A n c hx hn hc hA
    · refine .subOff r lo hi x e sz rows k h1 h2 A n c hx hn hc fun h0 => ?_
      obtain ⟨g, o, N, C, hs, hA', _⟩ := hA h0
      exact ⟨g, o, N, C, hs, hA'⟩
  | subTr r lo hi x st e sz cols rows h h1 h2 A n c hx hn hc hA => exact .subTr r lo hi x st e sz cols rows (same _ _ h (by intro _ _ _ hc; cases hc)) h1 h2 A n c hx hn hc hA
  | subOff r lo hi x e sz rows h h1 h2 A n c hx hn hc hA => exact .subOff r lo hi x e sz rows (same _ _ h (by intro _ _ _ hc; cases hc)) h1 h2 A n c hx hn hc hA
  | subStill r lo hi x sz rows h h1 h2 hx => exact .subStill r lo hi x sz rows (same _ _ h (by intro _ _ _ hc; cases hc)) h1 h2 hx
  | subDead r lo hi x h ho => exact .subDead r lo hi x (same _ _ h (by intro _ _ _ hc; cases hc)) ho
  | ptr r off x T cs h g hs hx => exact .ptr r off x T cs (same _ _ h (by intro _ _ _ hc; cases hc)) g hs hx
  | ptrDead r off x h ho => exact .ptrDead r off x (same _ _ h (by intro _ _ _ hc; cases hc)) ho
  | eptr r i j x e sz rows h g o n c hs hx =>
    rcases sl _ _ _ _ h with k | ⟨cols, rows', k, hlen⟩ | k
    · exact .eptr r i j x e sz rows k g o n c hs hx
    · exact .eptrTr r i j x _ e sz cols rows' k g o n c hs hx
    · exact .eptrOff r i j x e sz rows k g o n c hs hx
  | eptrTr r i j x st e sz cols rows h g o n c hs hx => exact .eptrTr r i j x st e sz cols rows (same _ _ h (by intro _ _ _ hc; cases hc)) g o n c hs hx
  | eptrOff r i j x e sz rows h g o n c hs hx => exact .eptrOff r i j x e sz rows (same _ _ h (by intro _ _ _ hc; cases hc)) g o n c hs hx
  | eptrStill r i j x sz rows h ho => exact .eptrStill r i j x sz rows (same _ _ h (by intro _ _ _ hc; cases hc)) ho
  | eptrDead r i j x h ho => exact .eptrDead r i j x (same _ _ h (by intro _ _ _ hc; cases hc)) ho
  | rptr cells b off u h1 h2 h3 => exact .rptr cells b off u h1 h2 h3
  | agg cs vs hl _ ih => exact .agg cs vs hl ih
  | tup cs vs hl _ ih => exact .tup cs vs hl ih
theorem own_nil {e : TypeId} {sz : Nat} {cols : List TK} (h0 : 0 < sz) (hc : cols.length = sz) : Own w (.sl e sz cols) (.l sz []) nilS :=
  .sl e sz cols [] _ [] (fun _ _ => undef) h0 hc (fun r hr => by simp at hr) (ownsAt_nil _ _ _) (fun i j d h => by simp [rowAt] at h) (fun i j d k h => by simp [rowAt] at h) (fun i j d k g h => by simp [rowAt] at h) (fun i j d k i' j' d' k' g h => by simp [rowAt] at h)
theorem nilC_own {k : TK} {d0 d : D} {u : Value} (h : nilC k d0 d) (hr : Rep w Z d0 u) : Own w k d u ∧ (∀ g, ¬ InF w k d u g) ∧ u.oneCell' = true := by
  cases k with
  | cell =>
    obtain ⟨rfl, x, rfl⟩ := h
    cases hr with
    | v _ ho => exact ⟨.cell _ ho, (fun g hg => by cases hg), ho⟩
  | sl e sz cols =>
    obtain ⟨rfl, rfl, h0, hc⟩ := h
    cases hr with
    | v _ ho =>
      refine ⟨own_nil h0 hc, fun g hg => ?_, ho⟩
      cases hg with
      | here _ _ _ _ _ _ h => cases h
      | down _ _ _ _ _ i j d k u g hd => simp [rowAt] at hd
theorem seen_tree {e : TypeId} {sz : Nat} {cols : List TK} {rows0 rows : List (List D)} {v : Value} {L : Nat → Blk} {s : Nat → Value} (hb : BlkR w Z L s (.sl e sz rows0) v) (hs : SeenAs sz cols rows0 rows) :
    (∃ xs u, Tree w (fun _ _ => false) e sz cols rows v xs u) ∧ ∀ i j d k u g, rowAt rows i j = some d → cols[j]? = some k → cellOf w v (i * sz + j) = some u → ¬ InF w k d u g := by
  obtain ⟨h0, xs, hown, hrows⟩ := hb.rows
  have kk : ∀ i j d, rowAt rows i j = some d → ∃ k, cols[j]? = some k := fun i j d hd => by
    unfold rowAt at hd
    cases hrow : rows[i]? with
    | none => simp [hrow] at hd
    | some row =>
      simp [hrow] at hd
      have h1 := hs.hr row (List.mem_of_getElem? hrow)
      have h2 := (List.getElem?_eq_some_iff.1 hd).1
      exact ⟨_, List.getElem?_eq_getElem (by rw [hs.hc]; omega)⟩
  have cel : ∀ i j d k, rowAt rows i j = some d → cols[j]? = some k → ∃ u, xs[i * sz + j]? = some u ∧ Own w k d u ∧ (∀ g, ¬ InF w k d u g) ∧ u.oneCell' = true := fun i j d k hd hk => by
    obtain ⟨d0, hd0, hn⟩ := hs.hz i j d k hd hk
    obtain ⟨u, hu, hr⟩ := hrows.2.2 i j d0 hd0
    exact ⟨u, hu, nilC_own hn hr⟩
  have gd : ∀ i j d, rowAt rows i j = some d → xs[i * sz + j]? = some (xs.getD (i * sz + j) undef) := fun i j d hd => by
    obtain ⟨k, hk⟩ := kk i j d hd
    obtain ⟨u, hu, _⟩ := cel i j d k hd hk
    simp [List.getD, hu]
  have cel2 : ∀ i j d k, rowAt rows i j = some d → cols[j]? = some k → Own w k d (xs.getD (i * sz + j) undef) ∧ (∀ g, ¬ InF w k d (xs.getD (i * sz + j) undef) g) ∧ (xs.getD (i * sz + j) undef).oneCell' = true := fun i j d k hd hk => by
    obtain ⟨u, hu, h⟩ := cel i j d k hd hk
    have : xs.getD (i * sz + j) undef = u := by simp [List.getD, hu]
    rw [this]; exact h
  refine ⟨⟨xs, fun i j => xs.getD (i * sz + j) undef, h0, hs.hc, hs.hr, by rw [← hs.hl]; exact hown, gd, fun i j d hd => ?_, fun i j d k _ hd hk => (cel2 i j d k hd hk).1, fun i j d k g _ hd hk hg => ((cel2 i j d k hd hk).2.1 g hg).elim, fun i j d k i' j' d' k' g _ _ a1 a2 _ _ a5 _ => ((cel2 i j d k a1 a2).2.1 g a5).elim⟩, fun i j d k u g hd hk hu hg => ?_⟩
  · obtain ⟨k, hk⟩ := kk i j d hd
    exact (cel2 i j d k hd hk).2.2
  · have h1 := own_cell hown (gd i j d hd)
    rw [hu] at h1
    cases h1
    exact (cel2 i j d k hd hk).2.1 g hg
theorem HR.retag {L1 : Nat → Blk} (hR : Retag L L1) (h : HR F W0 w L s Z) : HR F W0 w L1 s Z := by
  have back : ∀ r g, (L1 r).live → Fp w (L1 r) (s r) g → (L r).live ∧ Fp w (L r) (s r) g := fun r g hl hg => by
    rcases hR r with k | ⟨e, sz, cols, rows0, rows, ⟨k1, k2, k3⟩ | ⟨k1, k2, k3⟩⟩
    · rw [k] at hl hg; exact ⟨hl, hg⟩
    rotate_left
    · rw [k1]; rw [k2] at hg; exact ⟨trivial, hg⟩
    · have hb := h.blk r
      rw [k1] at hb ⊢
      rw [k2] at hg
      rcases hg with hg | ⟨i, j, d, k, u, _, hd, hk, hu, hin⟩
      · exact ⟨trivial, hg⟩
      · exact ((seen_tree hb k3).2 i j d k u g hd hk hu hin).elim
  refine ⟨fun r => ?_, fun r r' g a b c d => ?_, fun r g a b => ?_, fun r g a b => ?_, h.zin, h.kept, h.zsrc, h.zhas⟩
  · have hb := h.blk r
    rcases hR r with k | ⟨e, sz, cols, rows0, rows, ⟨k1, k2, k3⟩ | ⟨k1, k2, k3⟩⟩
    rotate_left 2
    · rw [k2]
      rw [k1] at hb
      exact hb
    · rw [k]
      cases hB : L r with
      | none => trivial
      | dead => trivial
      | var T cs =>
        rw [hB] at hb
        obtain ⟨g, vs, h1, h2, h3, h4⟩ := hb
        exact ⟨g, vs, h1, h2, h3, fun i x y hx hy => ⟨(h4 i x y hx hy).1.retag hR, (h4 i x y hx hy).2⟩⟩
      | sl e sz rows => rw [hB] at hb; exact hb
      | still sz rows => rw [hB] at hb; exact hb
      | off e sz rows => rw [hB] at hb; exact hb
      | tr st e sz cols rows =>
        rw [hB] at hb
        obtain ⟨xs, u, h1, h2⟩ := hb
        refine ⟨xs, u, h1, fun i j q hq => ?_⟩
        obtain ⟨a1, a2, a3⟩ := h2 i j q hq
        rcases hR q with k | ⟨e', sz', cols', _, _, ⟨k1, k2, -⟩ | ⟨k1, k2, -⟩⟩
        · rw [k]; exact ⟨a1, a2, a3⟩
        · rw [k2]; exact ⟨a1, (by intro hc; cases hc), fun _ => a3 (by rw [k1]; trivial)⟩
        · rw [k2]; exact ⟨a1, (by intro hc; cases hc), fun _ => a3 (by rw [k1]; trivial)⟩
    · rw [k2]
      rw [k1] at hb
      obtain ⟨xs, u, hT⟩ := (seen_tree hb k3).1
      exact ⟨xs, u, hT, fun i j q hq => by cases hq⟩
  · obtain ⟨a1, c1⟩ := back r g a c
    obtain ⟨b1, d1⟩ := back r' g b d
    exact h.sepF r r' g a1 b1 c1 d1
  · obtain ⟨a1, c1⟩ := back r g a b
    exact h.nzF r g a1 c1
  · obtain ⟨a1, c1⟩ := back r g a b
    exact h.mineF r g a1 c1
theorem fitH_there {f : Nat → Option Nat} {ks : List Nat} {hp : HP} : ∀ {hp' : HP}, fitH f ks hp hp' → ∀ r, r ∈ hp'.map (·.1) → (lk hp' r).there = true
  | [], _, _, h => by simp at h
  | (r, b) :: t, ⟨h1, h2, h5, h4, h3⟩, k, hk => by
    simp only [lk]
    by_cases e : k = r
    · subst e; rw [if_pos rfl]; exact h4
    · rw [if_neg e]
      exact fitH_there h3 k (by simpa [e] using hk)
theorem fitH_at {f : Nat → Option Nat} {ks : List Nat} {hp : HP} : ∀ {hp' : HP}, fitH f ks hp hp' → ∀ r, r ∈ hp'.map (·.1) → (fitB f hp r (lk hp' r) ∧ (∀ k ∈ blkIds (lk hp' r), k ∈ ks) ∧ (∀ k ∈ blkPids (lk hp' r), f k ≠ none) ∧ lk hp' r ≠ .none)
  | [], _, _, h => by simp at h
  | (r, b) :: t, ⟨h1, h2, h5, h4, h3⟩, k, hk => by
    simp only [lk]
    by_cases e : k = r
    · subst e
      rw [if_pos rfl]
      exact ⟨h1, fun j hj => by have := List.all_eq_true.1 h2 j hj; simpa using this, (fun j hj e => by have := List.all_eq_true.1 h5 j hj; rw [e] at this; cases this), fun e => by rw [e] at h4; cases h4⟩
    · rw [if_neg e]
      exact fitH_at h3 k (by simpa [e] using hk)
theorem fitT_at {f : Nat → Option Nat} {ks : List Nat} : ∀ {tm tm' : List AV}, fitT f ks tm tm' → tm'.length = tm.length ∧ ∀ (i : Nat) y, tm'[i]? = some y → ∃ x, tm[i]? = some x ∧ fit1 f ks x y
  | [], [], _ => ⟨rfl, fun i y h => by simp at h⟩
  | x :: xs, y :: ys, ⟨h1, h2⟩ => by
    obtain ⟨k1, k2⟩ := fitT_at h2
    refine ⟨by simp [k1], fun i z hz => ?_⟩
    cases i with
    | zero => simp at hz; subst hz; exact ⟨x, rfl, h1⟩
    | succ i => simpa using k2 i z (by simpa using hz)
  | [], _ :: _, h => h.elim
  | _ :: _, [], h => h.elim
theorem Blk.ren_live {f : Nat → Option Nat} {b : Blk} : (b.ren f).live ↔ b.live := by cases b <;> simp [Blk.ren, Blk.live]
theorem rn_inj {f : Nat → Option Nat} {hp : HP} (h : (hp.filterMap fun x => f x.1).Nodup) {a b q : Nat} (ha : a ∈ hp.map (·.1)) (hb : b ∈ hp.map (·.1)) (e : f a = some q) (e' : f b = some q) : a = b := by
  induction hp with
  | nil => simp at ha
  | cons p t ih =>
    have hmem : ∀ c, c ∈ t.map (·.1) → f c = some q → q ∈ t.filterMap fun x => f x.1 := fun c hc hq => by
      obtain ⟨x, hx, rfl⟩ := List.mem_map.1 hc
      exact List.mem_filterMap.2 ⟨x, hx, hq⟩
    simp only [List.map_cons, List.mem_cons] at ha hb
    simp only [List.filterMap_cons] at h
    rcases ha with rfl | ha <;> rcases hb with rfl | hb
    · rfl
    · rw [e] at h
      exact absurd (hmem b hb e') (List.nodup_cons.1 h).1
    · rw [e'] at h
      exact absurd (hmem a ha e) (List.nodup_cons.1 h).1
    · refine ih ?_ ha hb
      split at h
      · exact h
      · exact (List.nodup_cons.1 h).2
theorem trE_tr {B0 b : Blk} (h : trE B0 b) : ∃ e sz cols rows0 rows, (B0 = .sl e sz rows0 ∧ b = .tr .whole e sz cols rows ∧ SeenAs sz cols rows0 rows) ∨ (B0 = .sl e sz rows ∧ b = .off e sz rows ∧ 0 < rows.length) := by
  unfold trE at h
  split at h
  · exact ⟨_, _, [], [], _, .inr ⟨h.1, rfl, h.2⟩⟩
  · rcases h with ⟨h1, rfl, h2⟩ | ⟨rows0, h1, h2⟩
    · exact ⟨_, _, _, _, _, .inl ⟨h1, rfl, .nil h2⟩⟩
    · exact ⟨_, _, _, _, _, .inl ⟨h1, rfl, h2⟩⟩
  · exact h.elim
theorem Fits.ren {tm tm' : List AV} {hp hp' : HP} {p : List (Nat × Option Nat)} (hf : Fits tm hp tm' hp' p) : ∃ L1, Retag (lk hp) L1 ∧ Ren (rn p) L1 (lk hp') := by
  obtain ⟨f1, f2, f3⟩ := hf
  refine ⟨fun q => open Classical in if h : ∃ r, r ∈ hp'.map (·.1) ∧ rn p r = some q ∧ trE (lk hp q) (lk hp' r) then lk hp' h.choose else lk hp q, fun q => ?_, fun r => ?_⟩
  · simp only []
    split
    · rename_i h
      exact .inr (trE_tr h.choose_spec.2.2)
    · exact .inl rfl
  · rcases Classical.em (r ∈ hp'.map (·.1)) with h | h
    · obtain ⟨k, -, -, -⟩ := fitH_at f2 r h
      unfold fitB at k
      split at k
      · rename_i q hq
        refine .inr (.inl ⟨q, hq, ?_⟩)
        simp only []
        split
        · rename_i hx
          have e : hx.choose = r := rn_inj f3 hx.choose_spec.1 h hx.choose_spec.2.1 hq
          obtain ⟨e1, sz, cols, rows0, rows, ⟨h1, h2, h3⟩ | ⟨h1, h2, h3⟩⟩ := trE_tr hx.choose_spec.2.2
          · rw [e] at h2 ⊢
            rw [h2]
            rfl
          · rw [e] at h2 ⊢
            rw [h2]
            rfl
        · rename_i hx
          rcases k with k | k
          · exact k
          · exact absurd ⟨r, h, hq, k⟩ hx
      · rename_i hq
        right; right
        refine ⟨hq, ?_⟩
        unfold emptyB at k
        split at k
        · rename_i e sz rows hb; obtain ⟨k1, k2⟩ := k; subst k2; exact .inl ⟨e, sz, k1, hb⟩
        · rename_i e sz cols rows hb; obtain ⟨k1, k2, k3⟩ := k; subst k2; exact .inr ⟨e, sz, cols, k1, k3, hb⟩
        · exact k.elim
    · exact .inl (lk_mem h)
theorem HR.fits {tm tm' : List AV} {hp hp' : HP} {p : List (Nat × Option Nat)} (h1 : HR F W0 w (lk hp) s Z) (hf : Fits tm hp tm' hp' p) : HR F W0 w (lk hp') (sRen (rn p) s) Z := by
  obtain ⟨L1, hT, hR⟩ := hf.ren
  replace h1 := h1.retag hT
  obtain ⟨f1, f2, f3⟩ := hf
  have hall : ∀ r ∈ hp'.map (·.1), lk hp' r ≠ .none := fun r hm => (fitH_at f2 r hm).2.2.2
  have dom : ∀ r, lk hp' r ≠ .none → r ∈ hp'.map (·.1) := fun r hr => by
    rcases Classical.em (r ∈ hp'.map (·.1)) with h | h
    · exact h
    · exact absurd (lk_mem h) hr
  have fpR : ∀ (b : Blk) (v : Value) (g : Nat), Fp w b v g → Fp w (b.ren (rn p)) v g := fun b v g h => by cases b <;> exact h
  have live : ∀ r g, (lk hp' r).live → Fp w (lk hp' r) (sRen (rn p) s r) g → r ∈ hp'.map (·.1) ∧ ∃ q, rn p r = some q ∧ (L1 q).live ∧ Fp w (L1 q) (s q) g := fun r g hr hg => by
    have hn : lk hp' r ≠ .none := fun e => by rw [e] at hr; exact hr
    refine ⟨dom r hn, ?_⟩
    rcases hR r with h | ⟨q, h2, h3⟩ | ⟨h2, ⟨e, sz, h0, h3⟩ | ⟨e, sz, cols, h0, hcl, h3⟩⟩
    · exact absurd h hn
    · refine ⟨q, h2, by rw [h3, Blk.ren_live]; exact hr, ?_⟩
      rw [h3]
      exact fpR _ _ _ (by simpa [sRen, h2] using hg)
    · rw [h3] at hg; simp [sRen, h2, nilS, Fp, vblk] at hg
    · rw [h3] at hg
      rcases hg with hg | ⟨i, j, d, k, u, _, hd, _⟩
      · simp [sRen, h2, nilS, vblk] at hg
      · simp [rowAt] at hd
  refine ⟨fun r => ?_, fun r r' g l1 l2 g1 g2 => ?_, fun r g l1 g1 => ?_, fun r g l1 g1 => ?_, h1.zin, h1.kept, h1.zsrc, h1.zhas⟩
  · rcases Classical.em (r ∈ hp'.map (·.1)) with hm | hm
    · obtain ⟨k1, k2, k3, k4⟩ := fitH_at f2 r hm
      rcases hR r with h | ⟨q, h2, h3⟩ | ⟨h2, ⟨e, sz, h0, h3⟩ | ⟨e, sz, cols, h0, hcl, h3⟩⟩
      · exact absurd h k4
      · have := h1.blk q
        rw [h3] at this
        have e : sRen (rn p) s r = s q := by simp [sRen, h2]
        rw [e]
        exact this.renamed hR (fitH_there f2 r hm) (fun k hk => hall k (k2 k hk)) k3
      · rw [h3]
        have e : sRen (rn p) s r = nilS := by simp [sRen, h2]
        rw [e]
        exact ⟨h0, fun r hr => by simp at hr, [], ownsAt_nil _ _ _, fun i j d hd => by simp [rowAt] at hd⟩
      · rw [h3]
        have e : sRen (rn p) s r = nilS := by simp [sRen, h2]
        rw [e]
        exact ⟨[], _, tree_nil h0 hcl (ownsAt_nil _ _ _), fun i j q hq => by cases hq⟩
    · rw [lk_mem hm]; trivial
  · obtain ⟨m1, q1, e1, k1, v1⟩ := live r g l1 g1
    obtain ⟨m2, q2, e2, k2, v2⟩ := live r' g l2 g2
    have := h1.sepF _ _ g k1 k2 v1 v2
    subst this
    exact rn_inj f3 m1 m2 e1 e2
  · obtain ⟨m1, q1, e1, k1, v1⟩ := live r g l1 g1
    exact h1.nzF _ g k1 v1
  · obtain ⟨m1, q1, e1, k1, v1⟩ := live r g l1 g1
    exact h1.mineF _ g k1 v1
theorem AVR.fits {tm tm' : List AV} {hp hp' : HP} {p : List (Nat × Option Nat)} (hf : Fits tm hp tm' hp' p) {i : Nat} {y : AV} (hy : tm'[i]? = some y) {x : Value} (h : ∀ z, tm[i]? = some z → AVR w Z (lk hp) s z x) : AVR w Z (lk hp') (sRen (rn p) s) y x := by
  obtain ⟨L1, hT, hR⟩ := hf.ren
  obtain ⟨f1, f2, f3⟩ := hf
  have hall : ∀ r ∈ hp'.map (·.1), lk hp' r ≠ .none := fun r hm => (fitH_at f2 r hm).2.2.2
  obtain ⟨x', hx', hfit⟩ := (fitT_at f1).2 i y hy
  have hr := (h x' hx').retag hT
  unfold fit1 at hfit
  split at hfit
  · exact .any x
  · obtain ⟨rfl, k2, k3⟩ := hfit
    exact hr.renamed hR rfl (fun r hr' => hall r (by have := List.all_eq_true.1 k2 r hr'; simpa using this)) (fun r hr' e => by have := List.all_eq_true.1 k3 r hr'; rw [e] at this; cases this)
def keepIds (S0 : List Nat) (hp' : HP) (p : List (Nat × Option Nat)) : Bool := S0.all fun r => rn p r == some r && (hp'.map (·.1)).contains r
theorem Both.fits {S : List (Nat × Value)} {tm tm' : List AV} {hp hp' : HP} {n n' : Nat} {a : Act} (h : Both S F W0 tm (lk hp) n a w) {p : List (Nat × Option Nat)} (hf : Fits tm hp tm' hp' p) (hn : (hp'.all fun x => decide (x.1 < n')) = true) (hk : keepIds (S.map (·.1)) hp' p = true) : Both S F W0 tm' (lk hp') n' a w := by
  obtain ⟨s, Z, h1, h2, h3, h4⟩ := h
  have hlt : ∀ r, n' ≤ r → lk hp' r = .none := fun r hr => lk_mem fun hm => by
    obtain ⟨x, hx, rfl⟩ := List.mem_map.1 hm
    have := List.all_eq_true.1 hn x hx
    simp at this
    omega
  refine ⟨sRen (rn p) s, Z, h1.fits hf, ⟨?_, fun i y x hy hx => AVR.fits hf hy fun z hz => h2.rel i z x hz hx, h2.defers⟩, hlt, fun q hq => ?_⟩
  · rw [h2.len]
    exact (fitT_at hf.t).1.symm
  · have := List.all_eq_true.1 hk q.1 (List.mem_map.2 ⟨q, hq, rfl⟩)
    rw [Bool.and_eq_true] at this
    obtain ⟨k1, k2⟩ := this
    have k1 : rn p q.1 = some q.1 := by simpa using k1
    have k2 : q.1 ∈ hp'.map (·.1) := by simpa using k2
    obtain ⟨e1, -, -, e2⟩ := fitH_at hf.h q.1 k2
    refine ⟨e2, ?_⟩
    simp only [fitB, k1] at e1
    obtain ⟨f1, f2⟩ := h4 q hq
    rcases f2 with f2 | f2
    · left
      rcases e1 with e1 | e1
      · rw [e1] at f2
        cases hb : lk hp' q.1 <;> rw [hb] at f2 <;> simp [Blk.ren] at f2 ⊢
      · obtain ⟨_, _, _, _, _, ⟨h1, _⟩ | ⟨h1, _⟩⟩ := trE_tr e1 <;> (rw [h1] at f2; cases f2)
    · right
      simp [sRen, k1, f2]
end
end Go.Proofs.Ytkfjaeoehhakpaa
namespace Go.Proofs.Ytkfjaeoehhakpaa
open Go.RowKit
abbrev Post := Exit → List AV → HP → Nat → Prop
def vc (P : Program) (G : List (FuncId × Abs)) (S0 : List Nat) : Code → Post → List AV → HP → Nat → Prop
  | .skip, K, tm, hp, n => K .normal tm hp n
  | .label _, K, tm, hp, n => K .normal tm hp n
  | .ret, K, tm, hp, n => K .ret tm hp n
  | .exit id, K, tm, hp, n => K (.exit id) tm hp n
  | .region _ ops dr, K, tm, hp, n => vcOps P G (dstsOf ops.toList) dr ops.toList n tm hp [] fun tm' hp' fps => (if dr then drawOk ops n fps = true else True) ∧ K .normal tm' hp' (n + 16 * ops.size)
  | .seq a b, K, tm, hp, n => vc P G S0 a (fun e tm hp n => match e with | .normal => vc P G S0 b K tm hp n | e => K e tm hp n) tm hp n
  | .cond c a b, K, tm, hp, n => match boolOf (evA tm c) with
    | some x => if x = true then vc P G S0 a K (refn tm c true) hp n else vc P G S0 b K (refn tm c false) hp n
    | none => False
  | .block id a, K, tm, hp, n => vc P G S0 a (fun e tm hp n => match e with | .exit j => if j = id then K .normal tm hp n else K (.exit j) tm hp n | e => K e tm hp n) tm hp n
  | .loop a, K, tm, hp, n => ∃ (α : Type) (T : α → List AV) (H : α → HP) (φ : α → Prop) (μ : α → Nat) (n1 : Nat), (∀ x, ((H x).all fun p => decide (p.1 < n1)) = true) ∧ (∃ x p, φ x ∧ Fits tm hp (T x) (H x) p ∧ keepIds S0 (H x) p = true) ∧
      ∀ x, φ x → vc P G S0 a (fun e tm' hp' n' => match e with | .normal => ∃ y p, φ y ∧ μ y < μ x ∧ Fits tm' hp' (T y) (H y) p ∧ keepIds S0 (H y) p = true | e => K e tm' hp' n') (T x) (H x) n1
  | _, _, _, _, _ => False
theorem vc_region (P : Program) (G : List (FuncId × Abs)) (S0 : List Nat) (id : Nat) (l : List Oper) (dr : Bool) (K : Post) (tm : List AV) (hp : HP) (n : Nat) :
    vc P G S0 (.region id l.toArray dr) K tm hp n = vcOps P G (dstsOf l) dr l n tm hp [] fun tm' hp' fps => (if dr then drawOk l.toArray n fps = true else True) ∧ K .normal tm' hp' (n + 16 * l.length) := by
  rw [vc]
  simp
section
variable (P : Program) (G : List (FuncId × Abs)) (S0 : List Nat) (K : Post) (tm : List AV) (hp : HP) (n : Nat)
end
section
variable {P : Program} {F : Nat → Prop} {W0 : Ent}
theorem least_of {p : Nat → Prop} (h : ∃ m, p m) : ∃ m, p m ∧ ∀ k, p k → m ≤ k := by
  obtain ⟨m, hm⟩ := h
  induction m using Nat.strongRecOn with
  | _ m ih =>
    rcases Classical.em (∃ k, k < m ∧ p k) with ⟨k, hk, hp⟩ | h
    · exact ih k hk hp
    · exact ⟨m, hm, fun k hk => Nat.le_of_not_lt fun hlt => h ⟨k, hlt, hk⟩⟩
theorem vc_ok {S : List (Nat × Value)} {S0 : List Nat} (hS : S0 = S.map (·.1)) {G : List (FuncId × Abs)} (hG : ∀ p ∈ G, CallOk P p.1 p.2) (hm : P.follows .mixedOrders = true) : ∀ (c : Code) (K : Post) (tm : List AV) (hp : HP) (n : Nat) (a : Act) (w : World) (Q : Exit → Act → World → Prop), vc P G S0 c K tm hp n → Both S F W0 tm (lk hp) n a w →
    (∀ e tm' hp' n' a' w', K e tm' hp' n' → Both S F W0 tm' (lk hp') n' a' w' → Q e a' w') → c.wp P Q a w := by
  intro c
  induction c with
  | skip => intro K tm hp n a w Q h hB hQ; exact wp_skip (hQ _ _ _ _ _ _ h hB)
  | label l => intro K tm hp n a w Q h hB hQ; exact wp_label (hQ _ _ _ _ _ _ h hB)
  | ret => intro K tm hp n a w Q h hB hQ; exact wp_ret (hQ _ _ _ _ _ _ h hB)
  | exit id => intro K tm hp n a w Q h hB hQ; exact wp_exit (hQ _ _ _ _ _ _ h hB)
  | region id ops dr =>
    intro K tm hp n a w Q h hB hQ
    exact vcOps_ok hG hm h hB fun tm' hp' a' w' hk hb => hQ _ _ _ _ _ _ hk hb
  | seq x y ihx ihy =>
    intro K tm hp n a w Q h hB hQ
    refine wp_seq (ihx _ tm hp n a w _ h hB fun e tm' hp' n' a' w' hk hb => ?_)
    cases e with
    | normal => exact ihy K tm' hp' n' a' w' Q hk hb hQ
    | _ => exact hQ _ _ _ _ _ _ hk hb
  | cond c x y ihx ihy =>
    intro K tm hp n a w Q h hB hQ
    rw [vc] at h
    split at h
    · rename_i b hb
      have hb := boolOf_eq hb
      have hev : a.eval c = .bool b := by
        obtain ⟨s, Z, h1, h2, h3⟩ := hB
        have := h2.eval c
        rw [hb] at this
        generalize a.eval c = v at this
        cases this
        rfl
      refine wp_cond hev ?_
      cases b with
      | true =>
        rw [if_pos rfl, refn_same hb] at h
        exact ihx K tm hp n a w Q h hB hQ
      | false =>
        rw [if_neg (by simp), refn_same hb] at h
        exact ihy K tm hp n a w Q h hB hQ
    · exact h.elim
  | block id x ih =>
    intro K tm hp n a w Q h hB hQ
    refine wp_block (ih _ tm hp n a w _ h hB fun e tm' hp' n' a' w' hk hb => ?_)
    cases e with
    | exit j =>
      simp only [Exit.inBlock] at hk ⊢
      split at hk
      · rename_i e; rw [if_pos e]; exact hQ _ _ _ _ _ _ hk hb
      · rename_i e; rw [if_neg e]; exact hQ _ _ _ _ _ _ hk hb
    | _ => exact hQ _ _ _ _ _ _ hk hb
  | loop x ih =>
    intro K tm hp n a w Q h hB hQ
    obtain ⟨α, T, H, φ, μ, n1, hn1, ⟨x0, p0, hx0, hf0, hk0⟩, hround⟩ := h
    subst hS
    let I : Act → World → Prop := fun a w => ∃ x, φ x ∧ Both S F W0 (T x) (lk (H x)) n1 a w
    have ex : ∀ a w, I a w → ∃ m x, μ x = m ∧ φ x ∧ Both S F W0 (T x) (lk (H x)) n1 a w := fun a w ⟨x, h1, h2⟩ => ⟨μ x, x, rfl, h1, h2⟩
    have low : ∀ a w, I a w → ∃ m, (∃ x, μ x = m ∧ φ x ∧ Both S F W0 (T x) (lk (H x)) n1 a w) ∧ ∀ k, (∃ x, μ x = k ∧ φ x ∧ Both S F W0 (T x) (lk (H x)) n1 a w) → m ≤ k := fun a w h => least_of (ex a w h)
    let M : Act → World → Nat := fun a w => open Classical in if h : I a w then Classical.choose (low a w h) else 0
    have least : ∀ a w y, φ y → Both S F W0 (T y) (lk (H y)) n1 a w → M a w ≤ μ y := fun a w y h1 h2 => by
      have hI : I a w := ⟨y, h1, h2⟩
      simp only [M, dif_pos hI]
      exact (Classical.choose_spec (low a w hI)).2 _ ⟨y, rfl, h1, h2⟩
    refine wp_loop I M ⟨x0, hx0, hB.fits hf0 (hn1 x0) hk0⟩ fun a w hI => ?_
    obtain ⟨y, hy1, hy2, hy3⟩ : ∃ y, μ y = M a w ∧ φ y ∧ Both S F W0 (T y) (lk (H y)) n1 a w := by
      simp only [M, dif_pos hI]
      exact (Classical.choose_spec (low a w hI)).1
    refine ih _ (T y) (H y) n1 a w _ (hround y hy2) hy3 fun e tm' hp' n' a' w' hk hb => ?_
    cases e with
    | normal =>
      obtain ⟨z, p, hz1, hz2, hz3, hz4⟩ := hk
      have hb' := hb.fits hz3 (hn1 z) hz4
      exact ⟨⟨z, hz1, hb'⟩, by have := least a' w' z hz1 hb'; omega⟩
    | _ => exact hQ _ _ _ _ _ _ hk hb
  | _ => intro K tm hp n a w Q h; exact h.elim
def resA (P : Program) (hp : HP) (tm : List AV) : ResultVar → Option AV
  | .tmp t => some (tm.getD t (.v undef))
  | .cell t T => match tm.getD t (.v undef) with
    | .ptr r off => match oLoad P (lk hp) T (.ptr r off) with
      | some o => some o.dst
      | none => none
    | _ => none
def resL (P : Program) (hp : HP) (tm : List AV) : List ResultVar → Option (List AV)
  | [] => some []
  | r :: rs => match resA P hp tm r, resL P hp tm rs with | some x, some xs => some (x :: xs) | _, _ => none
def packA : List AV → AV
  | [x] => x
  | xs => .tup xs
theorem oLoad_ptr_c {L : Nat → Blk} {T : TypeId} {r off : Nat} {o : Out} (h : oLoad P L T (.ptr r off) = some o) : o.c ∧ ∃ T' cs, L r = .var T' cs := by
  unfold oLoad at h
  dsimp only at h
  split at h
  · rename_i T' cs hL
    refine ⟨?_, T', cs, hL⟩
    split at h
    · split at h
      · simp at h; subst h; trivial
      · cases h
    · split at h
      · split at h
        · simp at h; subst h; trivial
        · cases h
      · cases h
  · cases h
theorem resA_ok {w : World} {s : Nat → Value} {Z : Nat → Prop} {hp : HP} {tm : List AV} {a : Act} (h1 : HR F W0 w (lk hp) s Z) (h2 : TR w Z (lk hp) s tm a) {r : ResultVar} {x : AV} (h : resA P hp tm r = some x) :
    ∃ v, (match r with | .tmp t => pure (a.tmps.getD t undef) | .cell t T => do loadVar T (← asAddr (a.tmps.getD t undef)) : Sem Value).run P w = .ok v w ∧ AVR w Z (lk hp) s x v := by
  cases r with
  | tmp t =>
    simp [resA] at h
    subst h
    refine ⟨a.tmps.getD t undef, rfl, ?_⟩
    have := h2.eval (.tmp t)
    simpa [evA, Act.eval] using this
  | cell t T =>
    simp only [resA] at h
    show ∃ v, (do loadVar T (← asAddr (a.tmps.getD t undef)) : Sem Value).run P w = .ok v w ∧ _
    split at h
    · rename_i r off hr
      split at h
      · rename_i o ho
        simp at h; subst h
        obtain ⟨hc, T', cs, hL⟩ := oLoad_ptr_c ho
        have hv := h2.eval (.tmp t)
        simp only [evA, Act.eval] at hv
        rw [hr] at hv
        obtain ⟨v, k1, k2, _⟩ := oLoad_ok (P := P) h1 hv ho hc
        refine ⟨v, ?_, k2⟩
        generalize a.tmps.getD t undef = y at hv k1 ⊢
        cases hv with
        | ptr _ _ _ _ _ _ g hs hx => subst hx; simpa [Instr.loadAt, Instr.sureAddr, asAddr] using k1
        | ptrDead _ _ _ hd => rw [hL] at hd; cases hd
      · cases h
    · cases h
theorem resL_ok {w : World} {s : Nat → Value} {Z : Nat → Prop} {hp : HP} {tm : List AV} {a : Act} (h1 : HR F W0 w (lk hp) s Z) (h2 : TR w Z (lk hp) s tm a) : ∀ {rs : List ResultVar} {xs : List AV}, resL P hp tm rs = some xs →
    ∃ vs : List Value, (rs.mapM fun | .tmp t => pure (a.tmps.getD t undef) | .cell t T => do loadVar T (← asAddr (a.tmps.getD t undef)) : Sem (List Value)).run P w = .ok vs w ∧ ARel w Z (lk hp) s xs vs
  | [], xs, h => by simp [resL] at h; subst h; exact ⟨[], by simp, rfl, fun i x y hx => by simp at hx⟩
  | r :: rs, xs, h => by
    simp only [resL] at h
    split at h
    · rename_i x xs' e1 e2
      simp at h; subst h
      obtain ⟨v, k1, k2⟩ := resA_ok (P := P) h1 h2 e1
      obtain ⟨vs, l1, l2, l3⟩ := resL_ok h1 h2 e2
      refine ⟨v :: vs, ?_, by simp [l2], fun i a b ha hb => ?_⟩
      · rw [List.mapM_cons, Sem.run_bind, k1, Result.andThen_ok, Sem.run_bind, l1]
        rfl
      · cases i with
        | zero => simp at ha hb; subst ha; subst hb; exact k2
        | succ i => exact l3 i a b (by simpa using ha) (by simpa using hb)
    · cases h
theorem res_ok {w : World} {s : Nat → Value} {Z : Nat → Prop} {hp : HP} {tm : List AV} {a : Act} (h1 : HR F W0 w (lk hp) s Z) (h2 : TR w Z (lk hp) s tm a) {fn : Func} {xs : List AV} (h : resL P hp tm fn.results.toList = some xs) :
    ∃ v, (results fn a.tmps).run P w = .ok v w ∧ AVR w Z (lk hp) s (packA xs) v := by
  obtain ⟨vs, k1, k2, k3⟩ := resL_ok h1 h2 h
  have hrun : (fn.results.mapM fun | .tmp t => pure (a.tmps.getD t undef) | .cell t T => do loadVar T (← asAddr (a.tmps.getD t undef)) : Sem (Array Value)).run P w = .ok vs.toArray w := by
    rw [Array.mapM_eq_mapM_toList, Sem.run_map, k1]
    rfl
  refine ⟨if h : vs.toArray.size = 1 then vs.toArray[0] else .tuple vs.toArray, ?_, ?_⟩
  · have e : results fn a.tmps = (fn.results.mapM fun | .tmp t => pure (a.tmps.getD t undef) | .cell t T => do loadVar T (← asAddr (a.tmps.getD t undef)) : Sem (Array Value)) >>= fun vs => pure (if h : vs.size = 1 then vs[0] else .tuple vs) := rfl
    rw [e, Sem.run_bind, hrun]
    rfl
  · match xs, vs, k2, k3 with
    | [], [], _, _ => exact .tup [] [] rfl fun i x y hx => by simp at hx
    | [x], [v], _, k3 => exact k3 0 x v rfl rfl
    | x :: y :: xs, u :: v :: vs, k2, k3 =>
      rw [dif_neg (by simp)]
      exact .tup _ _ k2 k3
end
end Go.Proofs.Ytkfjaeoehhakpaa
