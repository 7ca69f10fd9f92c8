import Derived.Test.YtmhmhgegdagjkaaYa
namespace Go.Proofs.Ytmhmhgegdagjkaa
open Go.RowKit
set_option linter.unusedSimpArgs false
set_option linter.unusedVariables false
def rAt (l : List RE) (i : Nat) : Bool := rOkB (l.getD i rt0) && (decide (i = 0) || aheadB (l.getD (i - 1) rt0) (l.getD i rt0))
def rsAll (l : List RE) : Bool := (List.range l.length).all (rAt l)
def rsB (l : List RE) : Bool := decide (l.length ≤ 8) && rsAll l
def lastFit (l : List RE) (x : Int) : Option RE := l.reverse.find? fun e => fitsB e x
def toV (l : List RE) (x : Int) : RE × Bool := if rsB l = true then (match lastFit l x with | some e => (e, true) | none => (rt0, false)) else (rt0, false)
def keyB (x y : RE) : Bool := decide (x.b = y.b) && decide (x.a = y.a)
def withR : List RE → RE → List RE
  | [], r => [r]
  | x :: t, r => if aheadB x r = true then x :: withR t r else if aheadB r x = true then r :: x :: t else r :: t
def sPutF : Bool → List RE → RE → List RE
  | d, [], r => if d = true then [] else [r]
  | d, x :: t, r => (if (!d && !aheadB x r) = true then [r] else []) ++ ((if keyB x r = true then [] else [x]) ++ sPutF (d || !aheadB x r) t r)
def putB (l : List RE) (r : RE) : Bool := rsB l && rOkB r && decide ((withR l r).length ≤ 8)
def putV (l : List RE) (r : RE) : List RE := if putB l r = true then withR l r else []
def OKS (l : List RE) : Prop := (∀ e ∈ l, rOkB e = true) ∧ l.Pairwise fun x y => aheadB x y = true
theorem ahead_trans {x y z : RE} (h1 : aheadB x y = true) (h2 : aheadB y z = true) : aheadB x z = true := by
  simp only [aheadB, decide_eq_true_eq] at *; omega
theorem rAt_get {l : List RE} {i : Nat} (h : i < l.length) : rAt l i = (rOkB l[i] && (decide (i = 0) || aheadB (l[i - 1]'(by omega)) l[i])) := by
  have h' : i - 1 < l.length := by omega
  simp [rAt, List.getD, h, h']
theorem rsAll_iff {l : List RE} : rsAll l = true ↔ OKS l := by
  constructor
  · intro h
    have h' : ∀ i (hi : i < l.length), rAt l i = true := fun i hi => List.all_eq_true.1 h i (List.mem_range.2 hi)
    refine ⟨fun e he => ?_, List.pairwise_iff_getElem.2 fun i j hi hj hij => ?_⟩
    · obtain ⟨i, hi, rfl⟩ := List.getElem_of_mem he
      have := h' i hi
      rw [rAt_get hi, Bool.and_eq_true] at this
      exact this.1
    · induction j with
      | zero => omega
      | succ j ih =>
        have := h' (j + 1) hj
        rw [rAt_get hj, Bool.and_eq_true, Bool.or_eq_true] at this
        have h2 : aheadB (l[j]'(by omega)) l[j + 1] = true := by
          rcases this.2 with h2 | h2
          · simp at h2
          · exact h2
        by_cases e : i = j
        · subst e; exact h2
        · exact ahead_trans (ih (by omega) (by omega)) h2
  · rintro ⟨h1, h2⟩
    refine List.all_eq_true.2 fun i hi => ?_
    have hi := List.mem_range.1 hi
    rw [rAt_get hi, Bool.and_eq_true, Bool.or_eq_true]
    refine ⟨h1 _ (List.getElem_mem hi), ?_⟩
    by_cases e : i = 0
    · left; simp [e]
    · right; exact (List.pairwise_iff_getElem.1 h2) (i - 1) i (by omega) hi (by omega)
theorem rsB_iff {l : List RE} : rsB l = true ↔ l.length ≤ 8 ∧ OKS l := by
  rw [rsB, Bool.and_eq_true, decide_eq_true_eq, rsAll_iff]
theorem OKS.sub {l l' : List RE} (h : OKS l) (s : l'.Sublist l) : OKS l' := ⟨fun e he => h.1 e (s.subset he), h.2.sublist s⟩
theorem OKS.nil : OKS [] := ⟨fun e he => (List.not_mem_nil he).elim, List.Pairwise.nil⟩
theorem OKS.tail {x : RE} {l : List RE} (h : OKS (x :: l)) : OKS l := h.sub (List.sublist_cons_self x l)
theorem OKS.hd {x : RE} {l : List RE} (h : OKS (x :: l)) : ∀ e ∈ l, aheadB x e = true := (List.pairwise_cons.1 h.2).1
theorem OKS.key {l : List RE} : OKS l → ∀ {x y : RE}, x ∈ l → y ∈ l → x.a = y.a → x.b = y.b → x = y := by
  induction l with
  | nil => intro _ x y hx; cases hx
  | cons z l ih =>
    intro h x y hx hy ea eb
    rcases List.mem_cons.1 hx with hx1 | hx1 <;> rcases List.mem_cons.1 hy with hy1 | hy1
    · rw [hx1, hy1]
    · have := h.hd y hy1
      simp only [aheadB, decide_eq_true_eq, ← hx1] at this; omega
    · have := h.hd x hx1
      simp only [aheadB, decide_eq_true_eq, ← hy1] at this; omega
    · exact ih h.tail hx1 hy1 ea eb
theorem rOk_mem {e : RE} (h : rOkB e = true) : (0 ≤ e.b ∧ e.b ≤ 16) ∧ (0 ≤ e.a ∧ e.a ≤ 65535) ∧ e.a % span e.b = 0 ∧ 1 ≤ span e.b ∧ span e.b ≤ 65536 ∧ (0 ≤ e.v ∧ e.v ≤ 65535) ∧ 1 ≤ e.m ∧ e.m ≤ 48 := by
  simp only [rOkB, decide_eq_true_eq] at h
  obtain ⟨h1, h2, h3, h4, h5⟩ := h
  have := span_bd h1.1 h1.2
  refine ⟨h1, h2, ?_, this.1, this.2, h4, h5⟩
  rw [← Int.tmod_eq_emod_of_nonneg h2.1]; exact h3
theorem lastFit_app (l t : List RE) (x : Int) : lastFit (l ++ t) x = (lastFit t x).or (lastFit l x) := by
  rw [lastFit, List.reverse_append, List.find?_append]; rfl
theorem lastFit_one (e : RE) (x : Int) : lastFit [e] x = if fitsB e x = true then some e else none := by
  rw [lastFit, List.reverse_singleton, List.find?_cons]
  cases fitsB e x <;> rfl
theorem lastFit_mem {l : List RE} {x : Int} {e : RE} (h : lastFit l x = some e) : e ∈ l ∧ fitsB e x = true :=
  ⟨List.mem_reverse.1 (List.mem_of_find?_eq_some h), List.find?_some (p := fun e => fitsB e x) h⟩
theorem sPutF_t (r : RE) : ∀ l : List RE, (∀ x ∈ l, aheadB r x = true) → sPutF true l r = l
  | [], _ => rfl
  | x :: t, h => by
    have h1 := h x (List.mem_cons_self ..)
    have hk : keyB x r = false := by
      simp only [aheadB, decide_eq_true_eq] at h1
      rw [Bool.eq_false_iff, keyB, ne_eq, Bool.and_eq_true, decide_eq_true_eq, decide_eq_true_eq]; omega
    rw [sPutF, hk, Bool.true_or, sPutF_t r t fun y hy => h y (List.mem_cons_of_mem _ hy)]
    rfl
theorem sPutF_eq (r : RE) : ∀ l : List RE, OKS l → sPutF false l r = withR l r
  | [], _ => rfl
  | x :: t, h => by
    have ih := sPutF_eq r t h.tail
    rw [sPutF, withR, Bool.false_or]
    by_cases h1 : aheadB x r = true
    · have hk : keyB x r = false := by
        simp only [aheadB, decide_eq_true_eq] at h1
        rw [Bool.eq_false_iff, keyB, ne_eq, Bool.and_eq_true, decide_eq_true_eq, decide_eq_true_eq]; omega
      rw [if_pos h1, h1, hk]
      simp [ih]
    · have h1' : aheadB x r = false := by simpa using h1
      have ht : ∀ y ∈ t, aheadB r y = true := fun y hy => by
        have := h.hd y hy
        simp only [aheadB, decide_eq_true_eq] at h1 this ⊢
        omega
      rw [if_neg h1, h1', Bool.not_false, sPutF_t r t ht]
      by_cases h2 : aheadB r x = true
      · have hk : keyB x r = false := by
          simp only [aheadB, decide_eq_true_eq] at h2
          rw [Bool.eq_false_iff, keyB, ne_eq, Bool.and_eq_true, decide_eq_true_eq, decide_eq_true_eq]; omega
        rw [if_pos h2, hk]; simp
      · have hk : keyB x r = true := by
          simp only [aheadB, decide_eq_true_eq] at h1 h2
          rw [keyB, Bool.and_eq_true, decide_eq_true_eq, decide_eq_true_eq]; omega
        rw [if_neg h2, hk]; simp
end Go.Proofs.Ytmhmhgegdagjkaa
