import Derived.Test.YtpompkogpdnlcaaRn
namespace Go.Proofs.Ytpompkogpdnlcaa
open Go.RowKit

/-- is an operation wanted? -/
def guardA (ops : Array Oper) (tm : List AV) : Option (Nat × Bool) → Option Bool
  | none => some true
  | some (j, want) => match (ops[j]?).bind (·.dst) with
    | none => some false
    | some t => match tm.getD t (.v undef) with
      | .v (.bool b) => some (b == want)
      | .v (.tuple _) => some false
      | _ => none
/-- one operation of a region -/
def stepA (P : Program) (G : List (FuncId × Abs)) (ops : Array Oper) (o : Oper) (tm : List AV) (L : Nat → Blk) (q : Nat) : Option Out :=
  match guardA ops tm o.guard with
  | none => none
  | some false => some ⟨True, .v undef, []⟩
  | some true => match o.op with
    | .pick c x y => match evA tm c with
      | .v (.bool b) => some ⟨True, if b then evA tm x else evA tm y, []⟩
      | _ => none
    | op => oOp P G op (evA tm) L q

section
variable {P : Program} {w : World} {Z : Nat → Prop} {L : Nat → Blk} {s : Nat → Value} {F : Nat → Prop} {W0 : Ent}

theorem TR.get {tm : List AV} {a : Act} (h : TR w Z L s tm a) {t : Nat} {x : AV} (hx : tm[t]? = some x) : ∃ y, a.tmps[t]? = some y ∧ AVR w Z L s x y := by
  have ht := (List.getElem?_eq_some_iff.1 hx).1
  have h2 : a.tmps[t]? = some (a.tmps[t]'(by rw [h.len]; exact ht)) := Array.getElem?_eq_getElem (by rw [h.len]; exact ht)
  exact ⟨_, h2, h.rel t _ _ hx h2⟩

theorem guardA_ok {ops : Array Oper} {tm : List AV} {a : Act} (h : TR w Z L s tm a) {o : Oper} {g : Bool} (hg : guardA ops tm o.guard = some g) : Region.wanted o (yielded ops a.tmps) = g := by
  unfold guardA at hg
  unfold Region.wanted
  split at hg
  · rename_i hgd
    rw [hgd]
    simpa using hg
  · rename_i j want hgd
    rw [hgd]
    simp only [yielded]
    split at hg
    · rename_i hd
      rw [hd]
      simp at hg ⊢
      exact hg
    · rename_i t hd
      rw [hd]
      simp only [Option.bind_some]
      by_cases ht : t < tm.length
      · obtain ⟨y, hy, hr⟩ := h.get (List.getElem?_eq_getElem ht)
        rw [hy]
        have e : tm.getD t (.v undef) = tm[t] := by simp [List.getD, List.getElem?_eq_getElem ht]
        rw [e] at hg
        generalize tm[t] = x at hr hg
        split at hg
        · cases hr
          simpa using hg
        · cases hr
          simp at hg ⊢
          exact hg
        · cases hg
      · have e : tm.getD t (.v undef) = .v undef := by simp [List.getD, List.getElem?_eq_none (Nat.le_of_not_lt ht)]
        have e2 : a.tmps[t]? = none := Array.getElem?_eq_none (by rw [h.len]; exact Nat.le_of_not_lt ht)
        rw [e] at hg
        rw [e2]
        simp [undef] at hg ⊢
        exact hg

theorem stepA_ok {G : List (FuncId × Abs)} (hG : ∀ p ∈ G, CallOk P p.1 p.2) (h : HR F W0 w L s Z) {tm : List AV} {a : Act} (ht : TR w Z L s tm a) {q : Nat} (hq : ∀ k, q ≤ k → k < q + 16 → L k = .none)
    {ops : Array Oper} {i : Nat} {o : Oper} (hi : ops[i]? = some o) {out : Out} (ho : stepA P G ops o tm L q = some out) (hc : out.c) {K : Act → World → Prop} {Q : Exit → Act → World → Prop}
    (hK : ∀ v w' s' Z', HR F W0 w' (ups L out.ups) s' Z' → Ext w Z L s w' Z' (ups L out.ups) s' → AVR w' Z' (ups L out.ups) s' out.dst v → K (a.put o.dst v) w') : wpOp P ops Q i K a w := by
  unfold wpOp
  rw [hi]
  simp only
  unfold stepA at ho
  split at ho
  · cases ho
  · rename_i hg
    rw [guardA_ok ht hg]
    simp at ho; subst ho
    exact hK undef w s Z h (Ext.refl _ _ _ _) (.v _)
  · rename_i hg
    rw [guardA_ok ht hg]
    refine .inl ?_
    split at ho
    · rename_i c x y hop
      split at ho
      · rename_i b hb
        simp at ho; subst ho
        refine pure_stays (L := L) h ⟨if b then a.eval x else a.eval y, ?_, ?_, rfl⟩ hK
        · have := ht.eval c
          rw [hb] at this
          cases hcv : a.eval c with
          | bool b' =>
            rw [hcv] at this
            cases this
            simp [execOp, hop, hcv, asBool]
          | _ => rw [hcv] at this; cases this
        · cases b
          · exact ht.eval y
          · exact ht.eval x
      · cases ho
    · exact oOp_ok hG h ht hq ho hc K Q hK
end

/-- the operations in the order of the text -/
def SeqA (P : Program) (G : List (FuncId × Abs)) (ops : Array Oper) (q0 : Nat) : List Oper → Nat → List AV → (Nat → Blk) → (List AV → (Nat → Blk) → Prop) → Prop
  | [], _, tm, L, K => K tm L
  | o :: rest, k, tm, L, K => ∃ out, stepA P G ops o tm L (q0 + 16 * k) = some out ∧ out.c ∧ (out.ups.all fun p => decide (p.1 < q0 + 16 * (k + 1))) = true ∧ SeqA P G ops q0 rest (k + 1) (putT tm o.dst out.dst) (ups L out.ups) K

theorem ups_ge {l : List (Nat × Blk)} {n : Nat} (h : (l.all fun p => decide (p.1 < n)) = true) : ∀ {L : Nat → Blk} {k : Nat}, n ≤ k → ups L l k = L k := by
  induction l with
  | nil => intro L k _; rfl
  | cons p l ih =>
    intro L k hk
    simp only [List.all_cons, Bool.and_eq_true, decide_eq_true_eq] at h
    rw [ups, ih h.2 hk, up_ne]
    omega

section
variable {P : Program} {F : Nat → Prop} {W0 : Ent} {S : List (Nat × Value)}

/-- blocks that are to keep their names -/
def Kp (S : List (Nat × Value)) (L : Nat → Blk) (s : Nat → Value) : Prop := ∀ p ∈ S, L p.1 ≠ .none ∧ (L p.1 = .dead ∨ s p.1 = p.2)
theorem Kp.ext {S : List (Nat × Value)} {w w' : World} {Z Z' : Nat → Prop} {L L' : Nat → Blk} {s s' : Nat → Value} (h : Kp S L s) (E : Ext w Z L s w' Z' L' s') : Kp S L' s' := fun p hp => by
  obtain ⟨h1, h2⟩ := h p hp
  rcases E.l p.1 with k | k | ⟨_, _, _, k, k', hx⟩ | ⟨_, _, _, _, k, k', _, hx⟩ | ⟨_, _, _, _, k, k', _, hx⟩ | ⟨_, _, k, k', hx⟩
  · exact absurd k h1
  · exact ⟨by rw [k]; simp, .inl k⟩
  all_goals
    refine ⟨by rw [k']; simp, .inr ?_⟩
    rcases h2 with h2 | h2
    · rw [k] at h2; cases h2
    · rw [hx, h2]
/-- what both are, in one -/
def Both (S : List (Nat × Value)) (F : Nat → Prop) (W0 : Ent) (tm : List AV) (L : Nat → Blk) (n : Nat) (a : Act) (w : World) : Prop :=
  ∃ s Z, HR F W0 w L s Z ∧ TR w Z L s tm a ∧ (∀ k, n ≤ k → L k = .none) ∧ Kp S L s

theorem SeqA.wp {G : List (FuncId × Abs)} (hG : ∀ p ∈ G, CallOk P p.1 p.2) {ops : Array Oper} {q0 : Nat} {K : List AV → (Nat → Blk) → Prop} {Q : Exit → Act → World → Prop}
    (hK : ∀ tm L a w, K tm L → Both S F W0 tm L (q0 + 16 * ops.size) a w → Q .normal a w) :
    ∀ (l : List Oper) (k : Nat) (tm : List AV) (L : Nat → Blk) (a : Act) (w : World), l = ops.toList.drop k → k ≤ ops.size → SeqA P G ops q0 l k tm L K → Both S F W0 tm L (q0 + 16 * k) a w → wpOps P ops Q (List.range' k l.length) a w
  | [], k, tm, L, a, w, hl, hle, h, hB => by
    have hk : ops.size ≤ k := by
      have := congrArg List.length hl
      simp at this
      omega
    obtain ⟨s, Z, h1, h2, h3, h5⟩ := hB
    exact hK tm L a w h ⟨s, Z, h1, h2, fun j hj => h3 j (by omega), h5⟩
  | o :: l, k, tm, L, a, w, hl, hle, h, hB => by
    obtain ⟨s, Z, h1, h2, h3, h5⟩ := hB
    obtain ⟨out, g1, g2, g3, g4⟩ := h
    have hlt : k < ops.size := by
      have := congrArg List.length hl
      simp at this
      omega
    have hi : ops[k]? = some o := by
      have : ops.toList[k]? = some o := by
        have := congrArg List.head? hl
        rw [List.head?_drop] at this
        simpa using this.symm
      simpa using this
    rw [show (o :: l).length = l.length + 1 from rfl, List.range'_succ, wpOps_cons]
    refine stepA_ok hG h1 h2 (fun j hj _ => h3 j hj) hi g1 g2 fun v w' s' Z' k1 k2 k3 => ?_
    refine SeqA.wp hG hK l (k + 1) _ _ _ _ (by rw [← List.drop_drop, ← hl]; rfl) hlt g4 ⟨s', Z', k1, (h2.mono k2).put k3 _, fun j hj => ?_, h5.ext k2⟩
    rw [ups_ge g3 hj]
    exact h3 j (by omega)
end
end Go.Proofs.Ytpompkogpdnlcaa
