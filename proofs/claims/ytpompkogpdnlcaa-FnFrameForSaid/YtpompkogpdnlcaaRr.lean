import Derived.Test.YtpompkogpdnlcaaRq
namespace Go.Proofs.Ytpompkogpdnlcaa
open Go.RowKit

theorem filter_less {α : Type} {p q : α → Bool} {x0 : α} : ∀ {l : List α}, (∀ x ∈ l, q x = true → p x = true) → x0 ∈ l → p x0 = true → q x0 = false → (l.filter q).length < (l.filter p).length
  | [], _, h, _, _ => by simp at h
  | x :: l, hi, hm, hp, hq => by
    have le : ∀ (l : List α), (∀ x ∈ l, q x = true → p x = true) → (l.filter q).length ≤ (l.filter p).length := by
      intro l
      induction l with
      | nil => intro _; simp
      | cons y l ih =>
        intro h
        have := ih fun x hx => h x (by simp [hx])
        have hy := h y (by simp)
        simp only [List.filter_cons]
        split
        · rename_i h1; rw [if_pos (hy h1)]; simp; exact this
        · split
          · simp; omega
          · exact this
    have h1 : ∀ x ∈ l, q x = true → p x = true := fun x hx => hi x (by simp [hx])
    simp only [List.filter_cons]
    rcases List.mem_cons.1 hm with rfl | hm
    · rw [hp, hq]
      simp
      have := le l h1
      omega
    · have := filter_less h1 hm hp hq
      have hx := hi x (by simp)
      split
      · rename_i h2; rw [if_pos (hx h2)]; simp; exact this
      · split
        · simp; omega
        · exact this

section
variable {P : Program} {G : List (FuncId × Abs)} {ops : Array Oper} {q0 : Nat} {F : Nat → Prop} {W0 : Ent} {S : List (Nat × Value)}

/-- what is done is closed under what comes ahead -/
def Closed (ops : Array Oper) (D : Nat → Bool) : Prop := ∀ j o, ops[j]? = some o → D j = true → ∀ e ∈ o.after, Region.binds .any e = true → D e.on = true

theorem ordOk_spec (h : ordOk ops = true) : ∀ j o, ops[j]? = some o → (∀ e ∈ o.after, Region.binds .any e = true → e.on < j) ∧ ∀ i, i < ops.size → ord ops i j = true → ∃ e ∈ o.after, Region.binds .any e = true ∧ (e.on = i ∨ ord ops i e.on = true) := by
  intro j o ho
  have hj : j < ops.size := (Array.getElem?_eq_some_iff.1 ho).1
  have := List.all_eq_true.1 h j (List.mem_range.2 hj)
  rw [ho] at this
  simp only [Bool.and_eq_true, List.all_eq_true, Bool.or_eq_true, Bool.not_eq_true', decide_eq_true_eq, List.any_eq_true] at this
  obtain ⟨h1, h2⟩ := this
  refine ⟨fun e he hb => ?_, fun i hi ho' => ?_⟩
  · rcases h1 e (by simpa using he) with h | h
    · rw [hb] at h; cases h
    · exact h
  · rcases h2 i (List.mem_range.2 hi) with h | ⟨e, he, hb, h⟩
    · rw [ho'] at h; cases h
    · exact ⟨e, by simpa using he, hb, by simpa using h⟩

theorem closed_ord (h : ordOk ops = true) {D : Nat → Bool} (hD : Closed ops D) : ∀ (j i : Nat), i < ops.size → j < ops.size → D j = true → ord ops i j = true → D i = true := by
  intro j
  induction j using Nat.strongRecOn with
  | _ j ih =>
    intro i hi hj hDj ho
    have hoj : ops[j]? = some ops[j] := Array.getElem?_eq_getElem hj
    obtain ⟨h1, h2⟩ := ordOk_spec h j _ hoj
    obtain ⟨e, he, hb, h3⟩ := h2 i hi ho
    have hlt := h1 e he hb
    have hDe := hD j _ hoj hDj e he hb
    rcases h3 with rfl | h3
    · exact hDe
    · exact ih e.on hlt i hi (by omega) hDe h3

theorem fpOk_spec {fps : List FP} (h : fpOk ops q0 fps = true) {i j : Nat} {ri wi rj wj : List Nat} (hi : fps[i]? = some (ri, wi)) (hj : fps[j]? = some (rj, wj)) (hil : i < ops.size) (hjl : j < ops.size) {r : Nat} (hr : r ∈ wi) :
    (r ∈ rj ∨ r ∈ wj → inOrd ops i j = true) ∧ (q0 + 16 * j ≤ r → r < q0 + 16 * (j + 1) → i = j ∨ (j < i ∧ ord ops j i = true)) := by
  have := List.all_eq_true.1 (List.all_eq_true.1 h i (List.mem_range.2 hil)) j (List.mem_range.2 hjl)
  rw [hi, hj] at this
  have := List.all_eq_true.1 this r hr
  simp only [Bool.and_eq_true, Bool.or_eq_true, Bool.not_eq_true', decide_eq_true_eq, Bool.and_eq_false_iff, decide_eq_false_iff_not, beq_iff_eq] at this
  obtain ⟨h1, h2⟩ := this
  refine ⟨fun hrr => ?_, fun ha hb => ?_⟩
  · rcases h1 with ⟨a, b⟩ | h1
    · rcases hrr with hrr | hrr
      · simp at a; exact absurd hrr a
      · simp at b; exact absurd hrr b
    · exact h1
  · rcases h2 with (h2 | h2) | h2
    · omega
    · exact .inl h2
    · exact .inr h2

theorem tmpOk_spec (h : tmpOk ops = true) {i j : Nat} {x y : Oper} (hi : ops[i]? = some x) (hj : ops[j]? = some y) {d : Tmp} (hd : x.dst = some d) (hy : d ∈ y.looksAt ops ∨ y.dst = some d) : inOrd ops i j = true := by
  have := List.all_eq_true.1 (List.all_eq_true.1 h i (List.mem_range.2 (Array.getElem?_eq_some_iff.1 hi).1)) j (List.mem_range.2 (Array.getElem?_eq_some_iff.1 hj).1)
  rw [hi, hj] at this
  simp only [hd] at this
  simp only [Bool.or_eq_true, Bool.and_eq_true, Bool.not_eq_true', bne_iff_ne, ne_eq] at this
  rcases this with ⟨a, b⟩ | h
  · rcases hy with hy | hy
    · simp at a; exact absurd hy a
    · exact absurd hy b
  · exact h

/-- a region that draws its order: as in the order of the text -/
theorem Tr.draws (hG : ∀ p ∈ G, CallOk P p.1 p.2) (hm : P.follows .mixedOrders = true) {tm tm' : List AV} {L L' : Nat → Blk} {outs : List (Out × FP)} (hT : Tr P G ops q0 ops.toList 0 tm L outs tm' L')
    (h1 : ordOk ops = true) (h2 : tmpOk ops = true) (h3 : fpOk ops q0 (outs.map (·.2)) = true) {a : Act} {w : World} (hB : Both S F W0 tm L q0 a w) {id : Nat} {Q : Exit → Act → World → Prop}
    (hQ : ∀ a w, Both S F W0 tm' L' (q0 + 16 * ops.size) a w → Q .normal a w) : (Code.region id ops true).wp P Q a w := by
  obtain ⟨hlen, hTm, hTL, hat⟩ := hT.at_
  have hlen' : outs.length = ops.size := by rw [hlen]; simp
  -- what is kept when D is done
  have main : ∀ (fuel : Nat) (listed : Array Bool) (a : Act) (w : World), listed.size = ops.size → Closed ops (fun j => listed.getD j false) → ((List.range ops.size).filter fun i => !listed.getD i true).length ≤ fuel →
      (∃ s Z, HR F W0 w (apL (fun j => listed.getD j false) outs 0 L) s Z ∧ TR w Z (apL (fun j => listed.getD j false) outs 0 L) s (apT (fun j => listed.getD j false) ops.toList outs 0 tm) a ∧ (∀ k, q0 + 16 * ops.size ≤ k → apL (fun j => listed.getD j false) outs 0 L k = .none) ∧ Kp S (apL (fun j => listed.getD j false) outs 0 L) s) →
      wpAny P .any ops Q fuel listed a w := by
    intro fuel
    have fin : ∀ (listed : Array Bool) (a : Act) (w : World), listed.size = ops.size → Closed ops (fun j => listed.getD j false) → Region.ready .any ops listed = [] →
        (∃ s Z, HR F W0 w (apL (fun j => listed.getD j false) outs 0 L) s Z ∧ TR w Z (apL (fun j => listed.getD j false) outs 0 L) s (apT (fun j => listed.getD j false) ops.toList outs 0 tm) a ∧ (∀ k, q0 + 16 * ops.size ≤ k → apL (fun j => listed.getD j false) outs 0 L k = .none) ∧ Kp S (apL (fun j => listed.getD j false) outs 0 L) s) →
        Q .normal a w := by
      intro listed a w hls _ hready hInv
      have hall : ∀ i, i < ops.size → listed.getD i false = true := by
        intro i
        induction i using Nat.strongRecOn with
        | _ i ih =>
          intro hi
          have hoi : ops[i]? = some ops[i] := Array.getElem?_eq_getElem hi
          obtain ⟨e1, _⟩ := ordOk_spec h1 i _ hoi
          rcases hl : listed.getD i false with _ | _
          · exfalso
            have hmem : i ∈ Region.ready .any ops listed := by
              refine List.mem_filter.2 ⟨List.mem_range.2 hi, ?_⟩
              have hlt : i < listed.size := by omega
              have hd : listed.getD i true = false := by simpa [Array.getD, hlt] using hl
              rw [hd, hoi]
              simp only [Bool.not_false, Bool.true_and, Option.map_some, Option.getD_some, Array.all_eq_true_iff_forall_mem]
              intro e he
              rcases hb : Region.binds .any e with _ | _
              · rfl
              · simp only [Bool.not_true, Bool.false_or]
                exact ih e.on (e1 e he hb) (Nat.lt_trans (e1 e he hb) hi)
            rw [hready] at hmem
            cases hmem
          · rfl
      obtain ⟨s, Z, g1, g2, g3, g4⟩ := hInv
      have eT : apT (fun j => listed.getD j false) ops.toList outs 0 tm = tm' := by
        rw [hTm]
        apply List.ext_getElem?
        intro t
        refine apT_at rfl rfl fun j o hj _ => ?_
        have := (List.getElem?_eq_some_iff.1 hj).1
        rw [Nat.zero_add]
        exact hall j (by simpa using this)
      have eL : apL (fun j => listed.getD j false) outs 0 L = L' := by
        rw [hTL]
        funext r
        refine apL_at rfl fun j p hj _ => ?_
        have := (List.getElem?_eq_some_iff.1 hj).1
        rw [Nat.zero_add]
        exact hall j (by omega)
      rw [eL] at g1 g2 g3 g4
      rw [eT] at g2
      exact hQ a w ⟨s, Z, g1, g2, g3, g4⟩
    induction fuel with
    | zero =>
      intro listed a w hls hcl hf hInv
      have hr : Region.ready .any ops listed = [] := by
        have h0 : ((List.range ops.size).filter fun i => !listed.getD i true) = [] := List.eq_nil_of_length_eq_zero (by omega)
        refine List.eq_nil_iff_forall_not_mem.2 fun i hi => ?_
        obtain ⟨k1, k2⟩ := List.mem_filter.1 hi
        rw [Bool.and_eq_true] at k2
        have : i ∈ (List.range ops.size).filter fun i => !listed.getD i true := List.mem_filter.2 ⟨k1, k2.1⟩
        rw [h0] at this
        cases this
      exact ⟨hr, fin listed a w hls hcl hr hInv⟩
    | succ fuel ih =>
      intro listed a w hls hcl hf hInv
      refine ⟨fun hr => fin listed a w hls hcl hr hInv, fun i hi => ?_⟩
      obtain ⟨k1, k2⟩ := List.mem_filter.1 hi
      have hin : i < ops.size := List.mem_range.1 k1
      rw [Bool.and_eq_true] at k2
      obtain ⟨k2, k3⟩ := k2
      have hilt : i < listed.size := by omega
      have hDi : listed.getD i false = false := by
        have : listed.getD i true = false := by simpa using k2
        simpa [Array.getD, hilt] using this
      have hoi : ops[i]? = some ops[i] := Array.getElem?_eq_getElem hin
      generalize ops[i] = o at hoi
      rw [hoi] at k3
      simp only [Option.map_some, Option.getD_some, Array.all_eq_true_iff_forall_mem] at k3
      have hedge : ∀ e ∈ o.after, Region.binds .any e = true → listed.getD e.on false = true := fun e he hb => by
        have := k3 e he
        rw [hb] at this
        simpa using this
      -- what comes ahead of i is done
      have hahead : ∀ k, k < ops.size → ord ops k i = true → listed.getD k false = true := by
        intro k hk hord
        obtain ⟨e1, e2⟩ := ordOk_spec h1 i o hoi
        obtain ⟨e, he, hb, h5⟩ := e2 k hk hord
        have hDe := hedge e he hb
        rcases h5 with rfl | h5
        · exact hDe
        · exact closed_ord h1 hcl e.on k hk (Nat.lt_trans (e1 e he hb) hin) hDe h5
      -- what comes behind i is not
      have hbehind : ∀ k, k < ops.size → ord ops i k = true → listed.getD k false = false := by
        intro k hk hord
        rcases hd : listed.getD k false with _ | _
        · rfl
        · have := closed_ord h1 hcl k i hin hk hd hord
          rw [hDi] at this; cases this
      have hio : ∀ k, k < ops.size → k ≠ i → inOrd ops k i = true → listed.getD k false = decide (k < i) := by
        intro k hk hne hord
        unfold inOrd at hord
        by_cases hlt : k < i
        · rw [if_pos hlt] at hord
          rw [hahead k hk hord]; simp [hlt]
        · rw [if_neg hlt, if_pos (by omega)] at hord
          rw [hbehind k hk hord]; simp [hlt]
      have hoil : ops.toList[i]? = some o := by simpa using hoi
      obtain ⟨out, m1, m2, m3, m4⟩ := hat i o hoil
      simp only [Nat.zero_add] at m1 m2 m4
      have hfi : (outs.map (·.2))[i]? = some (foot (apL (fun j => decide (j < i)) outs 0 L) (o.op.operands.toList.map (evA (apT (fun j => decide (j < i)) ops.toList outs 0 tm))), out.ups.map (·.1)) := by
        rw [List.getElem?_map, m1]; rfl
      have hfj : ∀ j p, outs[j]? = some p → (outs.map (·.2))[j]? = some p.2 ∧ j < ops.size ∧ p.2.2 = p.1.ups.map (·.1) := by
        intro j p hj
        have hjl := (List.getElem?_eq_some_iff.1 hj).1
        refine ⟨by rw [List.getElem?_map, hj]; rfl, by omega, ?_⟩
        have hoj : ops.toList[j]? = some (ops[j]'(by omega)) := by simp
        obtain ⟨out', n1, _⟩ := hat j _ hoj
        rw [hj] at n1
        cases n1
        rfl
      obtain ⟨s, Z, g1, g2, g3, g4⟩ := hInv
      -- the operation meets what it meets in the order of the text
      have hstep : stepA P G ops o (apT (fun j => listed.getD j false) ops.toList outs 0 tm) (apL (fun j => listed.getD j false) outs 0 L) (q0 + 16 * i) = some out := by
        rw [← m2]
        refine stepA_near hG (fun t ht => ?_) (fun r hr => ?_)
        · have : (apT (fun j => listed.getD j false) ops.toList outs 0 tm)[t]? = (apT (fun j => decide (j < i)) ops.toList outs 0 tm)[t]? := by
            refine apT_at rfl rfl fun j o' hj hd => ?_
            rw [Nat.zero_add]
            have hjo : ops[j]? = some o' := by simpa using hj
            have hjl := (Array.getElem?_eq_some_iff.1 hjo).1
            by_cases e : j = i
            · subst e; rw [hDi]; simp
            · exact hio j hjl e (tmpOk_spec h2 hjo hoi hd (.inl ht))
          simp only [List.getD, this]
        · refine apL_at rfl fun j p hj hp => ?_
          rw [Nat.zero_add]
          obtain ⟨f1, f2, f3⟩ := hfj j p hj
          by_cases e : j = i
          · subst e; rw [hDi]; simp
          · have f1' : (outs.map (·.2))[j]? = some (p.2.1, p.2.2) := f1
            exact hio j f2 e ((fpOk_spec h3 f1' hfi f2 hin (r := r) (by rw [f3]; exact hp)).1 (.inl hr))
      -- the numbers of its new blocks are new
      have hnew : ∀ k, q0 + 16 * i ≤ k → k < q0 + 16 * i + 16 → apL (fun j => listed.getD j false) outs 0 L k = .none := by
        intro k hk1 hk2
        have h0 : ∀ (ps : List (Out × FP)) (m : Nat) (L0 : Nat → Blk), L0 k = .none → (∀ j p, ps[j]? = some p → listed.getD (m + j) false = true → k ∉ p.1.ups.map (·.1)) → apL (fun j => listed.getD j false) ps m L0 k = .none := by
          intro ps
          induction ps with
          | nil => intro m L0 h _; simpa [apL] using h
          | cons p ps ih2 =>
            intro m L0 h hh
            simp only [apL]
            refine ih2 (m + 1) _ ?_ fun j p' hj hd => hh (j + 1) p' (by simpa using hj) (by rwa [show m + (j + 1) = m + 1 + j by omega])
            split
            · rename_i hd
              rw [ups_out (hh 0 p rfl (by rwa [Nat.add_zero]))]
              exact h
            · exact h
        obtain ⟨s0, Z0, b1, b2, b3, b4⟩ := hB
        refine h0 outs 0 L (b3 k (by omega)) fun j p hj hd hmem => ?_
        rw [Nat.zero_add] at hd
        obtain ⟨f1, f2, f3⟩ := hfj j p hj
        have f1' : (outs.map (·.2))[j]? = some (p.2.1, p.2.2) := f1
        rcases (fpOk_spec h3 f1' hfi f2 hin (r := k) (by rw [f3]; exact hmem)).2 hk1 (by omega) with e | ⟨e1, e2⟩
        · subst e; rw [hDi] at hd; cases hd
        · have := hbehind j f2 e2
          rw [this] at hd; cases hd
      refine stepA_ok hG g1 g2 hnew hoi hstep m3 fun v w' s' Z' r1 r2 r3 => ?_
      have hset : ∀ j, (listed.setIfInBounds i true).getD j false = (listed.getD j false || j == i) := by
        intro j
        by_cases e : j = i
        · subst e; simp [Array.getD, hilt]
        · have : (j == i) = false := by simpa using e
          rw [this, Bool.or_false]
          simp only [Array.getD_eq_getD_getElem?]
          rw [Array.getElem?_setIfInBounds_ne (Ne.symm e)]
      have eT : apT (fun j => (listed.setIfInBounds i true).getD j false) ops.toList outs 0 tm = putT (apT (fun j => listed.getD j false) ops.toList outs 0 tm) o.dst out.dst := by
        refine apT_more (pi := (out, _)) (Nat.zero_le _) (by simpa using hoi) m1 hDi hset fun j o' hj hlt hd d hdo hdo' => ?_
        rw [Nat.zero_add] at hlt hd
        have hjo : ops[j]? = some o' := by simpa using hj
        have := tmpOk_spec h2 hoi hjo hdo (.inr hdo')
        unfold inOrd at this
        rw [if_pos hlt] at this
        have := hbehind j (Array.getElem?_eq_some_iff.1 hjo).1 this
        rw [this] at hd; cases hd
      have eL : apL (fun j => (listed.setIfInBounds i true).getD j false) outs 0 L = ups (apL (fun j => listed.getD j false) outs 0 L) out.ups := by
        refine apL_more (pi := (out, _)) (Nat.zero_le _) m1 hDi hset fun j p hj hlt hd r hr hr' => ?_
        rw [Nat.zero_add] at hlt hd
        obtain ⟨f1, f2, f3⟩ := hfj j p hj
        have f1' : (outs.map (·.2))[j]? = some (p.2.1, p.2.2) := f1
        have := (fpOk_spec h3 hfi f1' hin f2 (r := r) hr).1 (.inr (by rw [f3]; exact hr'))
        unfold inOrd at this
        rw [if_pos hlt] at this
        have := hbehind j f2 this
        rw [this] at hd; cases hd
      refine ih _ _ _ (by simpa using hls) ?_ ?_ ⟨s', Z', by rw [eL]; exact r1, by rw [eL, eT]; exact (g2.mono r2).put r3 _, fun k hk => ?_, by rw [eL]; exact g4.ext r2⟩
      · intro j o' hj hd e he hb
        dsimp only at hd ⊢
        rw [hset] at hd ⊢
        by_cases e' : j = i
        · subst e'
          rw [hoi] at hj; cases hj
          rw [hedge e he hb]; rfl
        · have : (j == i) = false := by simpa using e'
          rw [this, Bool.or_false] at hd
          have hh : listed.getD e.on false = true := hcl j o' hj hd e he hb
          rw [hh]; rfl
      · have : ((List.range ops.size).filter fun k => !(listed.setIfInBounds i true).getD k true).length < ((List.range ops.size).filter fun k => !listed.getD k true).length := by
          refine filter_less (x0 := i) (fun x _ hx => ?_) (List.mem_range.2 hin) (by simpa using k2) (by simp [Array.getD, hilt])
          by_cases e : x = i
          · subst e; simp [Array.getD, hilt] at hx
          · simp only [Array.getD_eq_getD_getElem?] at hx ⊢
            rwa [Array.getElem?_setIfInBounds_ne (Ne.symm e)] at hx
        omega
      · rw [eL, ups_ge m4 (by omega)]
        exact g3 k hk
  refine wp_region_any hm (main ops.size _ a _ (by simp) (fun j o hj hd => ?_) (Nat.le_trans (List.length_filter_le _ _) (by simp)) ?_)
  · dsimp only at hd
    rw [Array.getD_eq_getD_getElem?, Array.getElem?_replicate] at hd
    split at hd <;> simp at hd
  · obtain ⟨s, Z, b1, b2, b3, b4⟩ := hB
    obtain ⟨c1, c2⟩ := b1.draws (w' := { w with drawn := w.drawn + 1 }) rfl rfl rfl rfl
    have hf : ∀ j, (Array.replicate ops.size false).getD j false = false := fun j => by
      rw [Array.getD_eq_getD_getElem?, Array.getElem?_replicate]
      split <;> rfl
    have hfun : (fun j => (Array.replicate ops.size false).getD j false) = fun _ => false := funext hf
    have eT : apT (fun j => (Array.replicate ops.size false).getD j false) ops.toList outs 0 tm = tm := by
      rw [hfun]
      have : ∀ (os : List Oper) (ps : List (Out × FP)) (k : Nat) (x : List AV), apT (fun _ => false) os ps k x = x := by
        intro os
        induction os with
        | nil => intro ps k x; simp [apT]
        | cons o os ih =>
          intro ps k x
          cases ps with
          | nil => simp [apT]
          | cons p ps => simp only [apT]; exact ih ps (k + 1) x
      exact this _ _ _ _
    have eL : apL (fun j => (Array.replicate ops.size false).getD j false) outs 0 L = L := by
      rw [hfun]
      have : ∀ (ps : List (Out × FP)) (k : Nat) (x : Nat → Blk), apL (fun _ => false) ps k x = x := by
        intro ps
        induction ps with
        | nil => intro k x; simp [apL]
        | cons p ps ih => intro k x; simp only [apL]; exact ih (k + 1) x
      exact this _ _ _
    refine ⟨s, Z, by rw [eL]; exact c1, by rw [eL, eT]; exact b2.mono c2, fun k hk => by rw [eL]; exact b3 k (by omega), by rw [eL]; exact b4⟩
end
end Go.Proofs.Ytpompkogpdnlcaa
