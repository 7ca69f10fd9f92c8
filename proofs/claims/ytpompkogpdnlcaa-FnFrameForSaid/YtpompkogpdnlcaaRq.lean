import Derived.Test.YtpompkogpdnlcaaRp
import Derived.Orders
namespace Go.Proofs.Ytpompkogpdnlcaa
open Go.RowKit

/-- the numbers that an operation reads, and those that it writes -/
abbrev FP := List Nat × List Nat
/-- does operation i come ahead of operation j? -/
def ord (ops : Array Oper) (i j : Nat) : Bool := ((Region.before ops).getD j 0).testBit i
def inOrd (ops : Array Oper) (i j : Nat) : Bool := if i < j then ord ops i j else if j < i then ord ops j i else true
/-- what comes ahead comes ahead by an edge -/
def ordOk (ops : Array Oper) : Bool :=
  (List.range ops.size).all fun j => match ops[j]? with
    | some o => (o.after.toList.all fun e => !Region.binds .any e || decide (e.on < j)) &&
        (List.range ops.size).all fun i => !ord ops i j || o.after.toList.any fun e => Region.binds .any e && (e.on == i || ord ops i e.on)
    | none => true
/-- slots that are written and read are in order -/
def tmpOk (ops : Array Oper) : Bool :=
  (List.range ops.size).all fun i => (List.range ops.size).all fun j => match ops[i]?, ops[j]? with
    | some x, some y => match x.dst with
      | some d => (!(y.looksAt ops).contains d && y.dst != some d) || inOrd ops i j
      | none => true
    | _, _ => true
/-- blocks that are written and read are in order; new ones are met by what comes behind -/
def fpOk (ops : Array Oper) (q0 : Nat) (fps : List FP) : Bool :=
  (List.range ops.size).all fun i => (List.range ops.size).all fun j => match fps[i]?, fps[j]? with
    | some (_, wi), some (rj, wj) => wi.all fun r => ((!rj.contains r && !wj.contains r) || inOrd ops i j) && (!(decide (q0 + 16 * j ≤ r) && decide (r < q0 + 16 * (j + 1))) || i == j || (decide (j < i) && ord ops j i))
    | _, _ => true

/-- the footprint of an operation -/
def fpOf (P : Program) (G : List (FuncId × Abs)) (o : Oper) (tm : List AV) (L : Nat → Blk) (out : Out) : FP := (foot L (o.op.operands.toList.map (evA tm)), out.ups.map (·.1))

/-- the operations in the order of the text, with what each does -/
def Tr (P : Program) (G : List (FuncId × Abs)) (ops : Array Oper) (q0 : Nat) : List Oper → Nat → List AV → (Nat → Blk) → List (Out × FP) → List AV → (Nat → Blk) → Prop
  | [], _, tm, L, outs, tm', L' => outs = [] ∧ tm' = tm ∧ L' = L
  | o :: rest, k, tm, L, outs, tm', L' => ∃ out outs', outs = (out, fpOf P G o tm L out) :: outs' ∧ stepA P G ops o tm L (q0 + 16 * k) = some out ∧ out.c ∧ (out.ups.all fun p => decide (p.1 < q0 + 16 * (k + 1))) = true ∧
      Tr P G ops q0 rest (k + 1) (putT tm o.dst out.dst) (ups L out.ups) outs' tm' L'

/-- only those of D are done -/
def apT (D : Nat → Bool) : List Oper → List (Out × FP) → Nat → List AV → List AV
  | o :: os, p :: ps, k, tm => apT D os ps (k + 1) (if D k then putT tm o.dst p.1.dst else tm)
  | _, _, _, tm => tm
def apL (D : Nat → Bool) : List (Out × FP) → Nat → (Nat → Blk) → Nat → Blk
  | p :: ps, k, L => apL D ps (k + 1) (if D k then ups L p.1.ups else L)
  | [], _, L => L

section
theorem putT_len (tm : List AV) (d : Option Tmp) (x : AV) : (putT tm d x).length = tm.length := by cases d <;> simp [putT]
theorem putT_ne {tm : List AV} {d : Option Tmp} {x : AV} {t : Nat} (h : d ≠ some t) : (putT tm d x)[t]? = tm[t]? := by
  cases d with
  | none => rfl
  | some e => exact List.getElem?_set_ne fun h' => h (by rw [h'])
theorem putT_at {tm tm' : List AV} {d : Option Tmp} {x : AV} {t : Nat} (h : tm'[t]? = tm[t]?) (hl : tm'.length = tm.length) : (putT tm' d x)[t]? = (putT tm d x)[t]? := by
  cases d with
  | none => exact h
  | some e => simp only [putT, List.getElem?_set, h, hl]
theorem apT_len (D : Nat → Bool) : ∀ (os : List Oper) (ps : List (Out × FP)) (k : Nat) (tm : List AV), (apT D os ps k tm).length = tm.length
  | [], _, _, _ => by simp [apT]
  | _ :: _, [], _, _ => by simp [apT]
  | o :: os, p :: ps, k, tm => by
    simp only [apT]
    rw [apT_len D os ps]
    split
    · exact putT_len _ _ _
    · rfl

/-- a slot hangs on those that write it alone -/
theorem apT_at {t : Nat} : ∀ {os : List Oper} {ps : List (Out × FP)} {k : Nat} {D D' : Nat → Bool} {tm tm' : List AV}, tm'[t]? = tm[t]? → tm'.length = tm.length →
    (∀ j o, os[j]? = some o → o.dst = some t → D' (k + j) = D (k + j)) → (apT D' os ps k tm')[t]? = (apT D os ps k tm)[t]?
  | [], _, _, _, _, _, _, h, _, _ => by simpa [apT] using h
  | _ :: _, [], _, _, _, _, _, h, _, _ => by simpa [apT] using h
  | o :: os, p :: ps, k, D, D', tm, tm', h, hl, hD => by
    simp only [apT]
    refine apT_at ?_ ?_ fun j o' hj hd => by
      have := hD (j + 1) o' (by simpa using hj) hd
      rwa [show k + (j + 1) = k + 1 + j by omega] at this
    · by_cases hd : o.dst = some t
      · have := hD 0 o rfl hd
        rw [Nat.add_zero] at this
        rw [this]
        split
        · exact putT_at h hl
        · exact h
      · have e : ∀ (b : Bool) (x : List AV), (if b then putT x o.dst p.1.dst else x)[t]? = x[t]? := fun b x => by
          cases b
          · rfl
          · exact putT_ne hd
        rw [e, e, h]
    · have e : ∀ (b : Bool) (x : List AV), (if b then putT x o.dst p.1.dst else x).length = x.length := fun b x => by
        cases b
        · rfl
        · exact putT_len _ _ _
      rw [e, e, hl]

theorem ups_out {l : List (Nat × Blk)} {r : Nat} (h : r ∉ l.map (·.1)) : ∀ {L : Nat → Blk}, ups L l r = L r := by
  induction l with
  | nil => intro L; rfl
  | cons p l ih =>
    intro L
    simp only [List.map_cons, List.mem_cons, not_or] at h
    rw [ups, ih h.2, up_ne _ _ h.1]

/-- a block hangs on those that write it alone -/
theorem apL_at {r : Nat} : ∀ {ps : List (Out × FP)} {k : Nat} {D D' : Nat → Bool} {L L' : Nat → Blk}, L' r = L r →
    (∀ j p, ps[j]? = some p → r ∈ p.1.ups.map (·.1) → D' (k + j) = D (k + j)) → apL D' ps k L' r = apL D ps k L r
  | [], _, _, _, _, _, h, _ => by simpa [apL] using h
  | p :: ps, k, D, D', L, L', h, hD => by
    simp only [apL]
    refine apL_at ?_ fun j p' hj hd => by
      have := hD (j + 1) p' (by simpa using hj) hd
      rwa [show k + (j + 1) = k + 1 + j by omega] at this
    by_cases hd : r ∈ p.1.ups.map (·.1)
    · have := hD 0 p rfl hd
      rw [Nat.add_zero] at this
      rw [this]
      split
      · exact ups_at h
      · exact h
    · have e : ∀ (b : Bool) (L : Nat → Blk), (if b then ups L p.1.ups else L) r = L r := fun b L => by
        cases b
        · rfl
        · exact ups_out hd
      rw [e, e, h]

/-- one more is done, behind which nothing was done that meets its slot -/
theorem apT_more {i : Nat} {oi : Oper} {pi : Out × FP} : ∀ {os : List Oper} {ps : List (Out × FP)} {k : Nat} {D D' : Nat → Bool} {tm : List AV}, k ≤ i → os[i - k]? = some oi → ps[i - k]? = some pi → D i = false → (∀ j, D' j = (D j || j == i)) →
    (∀ j o, os[j]? = some o → i < k + j → D (k + j) = true → ∀ d, oi.dst = some d → o.dst ≠ some d) → apT D' os ps k tm = putT (apT D os ps k tm) oi.dst pi.1.dst
  | [], _, _, _, _, _, _, h, _, _, _, _ => by simp at h
  | _ :: _, [], _, _, _, _, _, _, h, _, _, _ => by simp at h
  | o :: os, p :: ps, k, D, D', tm, hk, ho, hp, hDi, hD', hdis => by
    simp only [apT]
    rcases Nat.lt_or_ge k i with hlt | hge
    · have e1 : i - k = (i - (k + 1)) + 1 := by omega
      rw [e1, List.getElem?_cons_succ] at ho hp
      have ek : D' k = D k := by rw [hD', show (k == i) = false by simp; omega, Bool.or_false]
      rw [ek]
      exact apT_more (by omega) ho hp hDi hD' fun j o' hj h1 h2 => hdis (j + 1) o' (by simpa using hj) (by omega) (by rwa [show k + (j + 1) = k + 1 + j by omega])
    · obtain rfl : k = i := by omega
      simp only [Nat.sub_self, List.getElem?_cons_zero, Option.some.injEq] at ho hp
      subst ho
      subst hp
      rw [hD', hDi]
      simp only [beq_self_eq_true, Bool.or_true, if_true, Bool.false_eq_true, if_false]
      have same : ∀ (os : List Oper) (ps : List (Out × FP)) (m : Nat) (x : List AV), k < m → (∀ j o', os[j]? = some o' → D (m + j) = true → ∀ d, o.dst = some d → o'.dst ≠ some d) → apT D' os ps m (putT x o.dst p.1.dst) = putT (apT D os ps m x) o.dst p.1.dst := by
        intro os
        induction os with
        | nil => intro ps m x _ _; simp [apT]
        | cons o1 os ih =>
          intro ps m x hm hh
          cases ps with
          | nil => simp [apT]
          | cons p1 ps =>
            simp only [apT]
            have em : D' m = D m := by rw [hD', show (m == k) = false by simp; omega, Bool.or_false]
            rw [em]
            have step : (if D m = true then putT (putT x o.dst p.1.dst) o1.dst p1.1.dst else putT x o.dst p.1.dst) = putT (if D m = true then putT x o1.dst p1.1.dst else x) o.dst p.1.dst := by
              split
              · rename_i hDm
                have hne := hh 0 o1 rfl (by rwa [Nat.add_zero])
                cases hd : o.dst with
                | none => rfl
                | some d =>
                  cases hd1 : o1.dst with
                  | none => rfl
                  | some d1 =>
                    have : d1 ≠ d := fun e => hne d hd (by rw [hd1, e])
                    simp only [putT]
                    exact List.set_comm _ _ (Ne.symm this)
              · rfl
            rw [step]
            exact ih ps (m + 1) _ (by omega) fun j o' hj h2 => hh (j + 1) o' (by simpa using hj) (by rwa [show m + (j + 1) = m + 1 + j by omega])
      exact same os ps (k + 1) tm (by omega) fun j o' hj h2 => hdis (j + 1) o' (by simpa using hj) (by omega) (by rwa [show k + (j + 1) = k + 1 + j by omega])

theorem apL_more {i : Nat} {pi : Out × FP} : ∀ {ps : List (Out × FP)} {k : Nat} {D D' : Nat → Bool} {L : Nat → Blk}, k ≤ i → ps[i - k]? = some pi → D i = false → (∀ j, D' j = (D j || j == i)) →
    (∀ j p, ps[j]? = some p → i < k + j → D (k + j) = true → ∀ r ∈ pi.1.ups.map (·.1), r ∉ p.1.ups.map (·.1)) → apL D' ps k L = ups (apL D ps k L) pi.1.ups
  | [], _, _, _, _, _, h, _, _, _ => by simp at h
  | p :: ps, k, D, D', L, hk, hp, hDi, hD', hdis => by
    simp only [apL]
    rcases Nat.lt_or_ge k i with hlt | hge
    · have e1 : i - k = (i - (k + 1)) + 1 := by omega
      rw [e1, List.getElem?_cons_succ] at hp
      have ek : D' k = D k := by rw [hD', show (k == i) = false by simp; omega, Bool.or_false]
      rw [ek]
      exact apL_more (by omega) hp hDi hD' fun j p' hj h1 h2 => hdis (j + 1) p' (by simpa using hj) (by omega) (by rwa [show k + (j + 1) = k + 1 + j by omega])
    · obtain rfl : k = i := by omega
      simp only [Nat.sub_self, List.getElem?_cons_zero, Option.some.injEq] at hp
      subst hp
      rw [hD', hDi]
      simp only [beq_self_eq_true, Bool.or_true, if_true, Bool.false_eq_true, if_false]
      have same : ∀ (ps : List (Out × FP)) (m : Nat) (x : Nat → Blk), k < m → (∀ j p', ps[j]? = some p' → D (m + j) = true → ∀ r ∈ p.1.ups.map (·.1), r ∉ p'.1.ups.map (·.1)) → apL D' ps m (ups x p.1.ups) = ups (apL D ps m x) p.1.ups := by
        intro ps
        induction ps with
        | nil => intro m x _ _; simp [apL]
        | cons p1 ps ih =>
          intro m x hm hh
          simp only [apL]
          have em : D' m = D m := by rw [hD', show (m == k) = false by simp; omega, Bool.or_false]
          rw [em]
          have step : (if D m = true then ups (ups x p.1.ups) p1.1.ups else ups x p.1.ups) = ups (if D m = true then ups x p1.1.ups else x) p.1.ups := by
            split
            · rename_i hDm
              have hne := hh 0 p1 rfl (by rwa [Nat.add_zero])
              funext r
              by_cases h1 : r ∈ p.1.ups.map (·.1)
              · have h2 := hne r h1
                rw [ups_out h2]
                exact ups_at (ups_out h2).symm
              · rw [ups_out h1 (L := ups x p1.1.ups)]
                exact ups_at (ups_out h1)
            · rfl
          rw [step]
          exact ih (m + 1) _ (by omega) fun j p' hj h2 => hh (j + 1) p' (by simpa using hj) (by rwa [show m + (j + 1) = m + 1 + j by omega])
      exact same ps (k + 1) L (by omega) fun j p' hj h2 => hdis (j + 1) p' (by simpa using hj) (by omega) (by rwa [show k + (j + 1) = k + 1 + j by omega])
end

section
variable {P : Program} {G : List (FuncId × Abs)} {ops : Array Oper} {q0 : Nat}

/-- what the i-th operation meets, and does -/
theorem Tr.at_ : ∀ {l : List Oper} {k : Nat} {tm tm' : List AV} {L L' : Nat → Blk} {outs : List (Out × FP)}, Tr P G ops q0 l k tm L outs tm' L' → outs.length = l.length ∧
    tm' = apT (fun _ => true) l outs k tm ∧ L' = apL (fun _ => true) outs k L ∧
    ∀ (i : Nat) o, l[i]? = some o → ∃ out, outs[i]? = some (out, fpOf P G o (apT (fun j => decide (j < k + i)) l outs k tm) (apL (fun j => decide (j < k + i)) outs k L) out) ∧
      stepA P G ops o (apT (fun j => decide (j < k + i)) l outs k tm) (apL (fun j => decide (j < k + i)) outs k L) (q0 + 16 * (k + i)) = some out ∧ out.c ∧ (out.ups.all fun p => decide (p.1 < q0 + 16 * (k + i + 1))) = true
  | [], k, tm, tm', L, L', outs, h => by
    obtain ⟨rfl, rfl, rfl⟩ := h
    exact ⟨rfl, rfl, rfl, fun i o h => by simp at h⟩
  | o :: l, k, tm, tm', L, L', outs, h => by
    obtain ⟨out, outs', rfl, h1, h2, h3, h4⟩ := h
    obtain ⟨k1, k2, k3, k4⟩ := Tr.at_ h4
    have none_T : ∀ (D : Nat → Bool) (os : List Oper) (ps : List (Out × FP)) (m : Nat) (x : List AV), (∀ j, m ≤ j → D j = false) → apT D os ps m x = x := by
      intro D os
      induction os with
      | nil => intro ps m x _; simp [apT]
      | cons o os ih =>
        intro ps m x hD
        cases ps with
        | nil => simp [apT]
        | cons p ps => simp only [apT, hD m (Nat.le_refl _)]; exact ih ps (m + 1) x fun j hj => hD j (by omega)
    have none_L : ∀ (D : Nat → Bool) (ps : List (Out × FP)) (m : Nat) (x : Nat → Blk), (∀ j, m ≤ j → D j = false) → apL D ps m x = x := by
      intro D ps
      induction ps with
      | nil => intro m x _; simp [apL]
      | cons p ps ih => intro m x hD; simp only [apL, hD m (Nat.le_refl _)]; exact ih (m + 1) x fun j hj => hD j (by omega)
    refine ⟨by simp [k1], by simpa [apT] using k2, by simpa [apL] using k3, fun i o' hi => ?_⟩
    cases i with
    | zero =>
      simp at hi
      subst hi
      have eT := none_T (fun j => decide (j < k + 0)) (o :: l) ((out, fpOf P G o tm L out) :: outs') k tm (fun j hj => by simp; omega)
      have eL := none_L (fun j => decide (j < k + 0)) ((out, fpOf P G o tm L out) :: outs') k L (fun j hj => by simp; omega)
      rw [eT, eL]
      exact ⟨out, rfl, h1, h2, h3⟩
    | succ i =>
      obtain ⟨out', g1, g2, g3, g4⟩ := k4 i o' (by simpa using hi)
      have eD : (fun j => decide (j < k + (i + 1))) = (fun j => decide (j < k + 1 + i)) := by funext j; exact decide_eq_decide.2 (by omega)
      have hk : decide (k < k + (i + 1)) = true := decide_eq_true (by omega)
      have eT : apT (fun j => decide (j < k + (i + 1))) (o :: l) ((out, fpOf P G o tm L out) :: outs') k tm = apT (fun j => decide (j < k + 1 + i)) l outs' (k + 1) (putT tm o.dst out.dst) := by
        simp only [apT, hk, if_true]; rw [eD]
      have eL : apL (fun j => decide (j < k + (i + 1))) ((out, fpOf P G o tm L out) :: outs') k L = apL (fun j => decide (j < k + 1 + i)) outs' (k + 1) (ups L out.ups) := by
        simp only [apL, hk, if_true]; rw [eD]
      rw [eT, eL, show k + (i + 1) = k + 1 + i by omega]
      exact ⟨out', by simpa using g1, g2, g3, g4⟩

theorem stepA_near (hG : ∀ p ∈ G, CallOk P p.1 p.2) {o : Oper} {tm tm' : List AV} {L L' : Nat → Blk} {q : Nat} (ht : ∀ t ∈ o.looksAt ops, tm'.getD t (.v undef) = tm.getD t (.v undef)) (hL : Agree L L' (foot L (o.op.operands.toList.map (evA tm)))) :
    stepA P G ops o tm' L' q = stepA P G ops o tm L q := by
  have hev : ∀ x ∈ o.op.operands, evA tm' x = evA tm x := fun x hx => by
    cases x with
    | tmp t => exact ht t (List.mem_append_left _ (List.mem_filterMap.2 ⟨.tmp t, by simpa using hx, rfl⟩))
    | _ => rfl
  have hgd : guardA ops tm' o.guard = guardA ops tm o.guard := by
    unfold guardA
    split
    · rfl
    · rename_i j want hg
      split
      · rfl
      · rename_i t hd
        rw [ht t (List.mem_append_right _ (by rw [hg]; simp only; rw [hd]; simp))]
  unfold stepA
  rw [hgd]
  split
  · rfl
  · rfl
  · split
    · rename_i c x y hop
      rw [hop] at hev
      rw [hev c (by simp [Op.operands]), hev x (by simp [Op.operands]), hev y (by simp [Op.operands])]
    · rw [oOp_congr (ev := evA tm) (ev' := evA tm') hev]
      exact oOp_near hG hL
end
end Go.Proofs.Ytpompkogpdnlcaa
