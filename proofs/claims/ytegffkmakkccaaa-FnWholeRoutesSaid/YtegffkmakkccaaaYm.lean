import Derived.Test.YtegffkmakkccaaaYa
namespace Go.Proofs.Ytegffkmakkccaaa
open Go.RowKit
set_option linter.unusedSimpArgs false
set_option linter.unusedVariables false
def rAt (l : List RE) (i : Nat) : Bool := rOkB (l.getD i rt0) && (decide (i = 0) || aheadB (l.getD (i - 1) rt0) (l.getD i rt0))
def rsAll (l : List RE) : Bool := (List.range l.length).all (rAt l)
def rsB (l : List RE) : Bool := decide (l.length ≤ 8) && rsAll l
def lastFit (l : List RE) (x : Int) : Option RE := l.reverse.find? fun e => fitsB e x
def toV (l : List RE) (x : Int) : RE × Bool := if rsB l = true then (match lastFit l x with | some e => (e, true) | none => (rt0, false)) else (rt0, false)
def keyB (x y : RE) : Bool := decide (x.b = y.b) && decide (x.a = y.a)
def withR : List RE → RE → List RE
  | [], r => [r]
  | x :: t, r => if aheadB x r = true then x :: withR t r else if aheadB r x = true then r :: x :: t else r :: t
def sPutF : Bool → List RE → RE → List RE
  | d, [], r => if d = true then [] else [r]
  | d, x :: t, r => (if (!d && !aheadB x r) = true then [r] else []) ++ ((if keyB x r = true then [] else [x]) ++ sPutF (d || !aheadB x r) t r)
def putB (l : List RE) (r : RE) : Bool := rsB l && rOkB r && decide ((withR l r).length ≤ 8)
def putV (l : List RE) (r : RE) : List RE := if putB l r = true then withR l r else []
def saidB (l : List RE) (r : RE) : Bool := match lastFit l r.a with | some s => decide (s.v = r.v) && decide (s.m = r.m) | none => false
def lessF : List RE → List RE → List RE
  | acc, [] => acc
  | acc, x :: t => if saidB acc x = true then lessF acc t else lessF (acc ++ [x]) t
def lessV (l : List RE) : List RE := if rsB l = true then lessF [] l else []
def OKS (l : List RE) : Prop := (∀ e ∈ l, rOkB e = true) ∧ l.Pairwise fun x y => aheadB x y = true
theorem ahead_trans {x y z : RE} (h1 : aheadB x y = true) (h2 : aheadB y z = true) : aheadB x z = true := by
  simp only [aheadB, decide_eq_true_eq] at *; omega
theorem rAt_get {l : List RE} {i : Nat} (h : i < l.length) : rAt l i = (rOkB l[i] && (decide (i = 0) || aheadB (l[i - 1]'(by omega)) l[i])) := by
  have h' : i - 1 < l.length := by omega
  simp [rAt, List.getD, h, h']
theorem rsAll_iff {l : List RE} : rsAll l = true ↔ OKS l := by
  constructor
  · intro h
    have h' : ∀ i (hi : i < l.length), rAt l i = true := fun i hi => List.all_eq_true.1 h i (List.mem_range.2 hi)
    refine ⟨fun e he => ?_, List.pairwise_iff_getElem.2 fun i j hi hj hij => ?_⟩
    · obtain ⟨i, hi, rfl⟩ := List.getElem_of_mem he
      have := h' i hi
      rw [rAt_get hi, Bool.and_eq_true] at this
      exact this.1
    · induction j with
      | zero => omega
      | succ j ih =>
        have := h' (j + 1) hj
        rw [rAt_get hj, Bool.and_eq_true, Bool.or_eq_true] at this
        have h2 : aheadB (l[j]'(by omega)) l[j + 1] = true := by
          rcases this.2 with h2 | h2
          · simp at h2
          · exact h2
        by_cases e : i = j
        · subst e; exact h2
        · exact ahead_trans (ih (by omega) (by omega)) h2
  · rintro ⟨h1, h2⟩
    refine List.all_eq_true.2 fun i hi => ?_
    have hi := List.mem_range.1 hi
    rw [rAt_get hi, Bool.and_eq_true, Bool.or_eq_true]
    refine ⟨h1 _ (List.getElem_mem hi), ?_⟩
    by_cases e : i = 0
    · left; simp [e]
    · right; exact (List.pairwise_iff_getElem.1 h2) (i - 1) i (by omega) hi (by omega)
theorem rsB_iff {l : List RE} : rsB l = true ↔ l.length ≤ 8 ∧ OKS l := by
  rw [rsB, Bool.and_eq_true, decide_eq_true_eq, rsAll_iff]
theorem OKS.sub {l l' : List RE} (h : OKS l) (s : l'.Sublist l) : OKS l' := ⟨fun e he => h.1 e (s.subset he), h.2.sublist s⟩
theorem OKS.nil : OKS [] := ⟨fun e he => (List.not_mem_nil he).elim, List.Pairwise.nil⟩
theorem OKS.tail {x : RE} {l : List RE} (h : OKS (x :: l)) : OKS l := h.sub (List.sublist_cons_self x l)
theorem OKS.hd {x : RE} {l : List RE} (h : OKS (x :: l)) : ∀ e ∈ l, aheadB x e = true := (List.pairwise_cons.1 h.2).1
theorem OKS.key {l : List RE} : OKS l → ∀ {x y : RE}, x ∈ l → y ∈ l → x.a = y.a → x.b = y.b → x = y := by
  induction l with
  | nil => intro _ x y hx; cases hx
  | cons z l ih =>
    intro h x y hx hy ea eb
    rcases List.mem_cons.1 hx with hx1 | hx1 <;> rcases List.mem_cons.1 hy with hy1 | hy1
    · rw [hx1, hy1]
    · have := h.hd y hy1
      simp only [aheadB, decide_eq_true_eq, ← hx1] at this; omega
    · have := h.hd x hx1
      simp only [aheadB, decide_eq_true_eq, ← hy1] at this; omega
    · exact ih h.tail hx1 hy1 ea eb
theorem rOk_mem {e : RE} (h : rOkB e = true) : (0 ≤ e.b ∧ e.b ≤ 16) ∧ (0 ≤ e.a ∧ e.a ≤ 65535) ∧ e.a % span e.b = 0 ∧ 1 ≤ span e.b ∧ span e.b ≤ 65536 ∧ (0 ≤ e.v ∧ e.v ≤ 65535) ∧ 1 ≤ e.m ∧ e.m ≤ 48 := by
  simp only [rOkB, decide_eq_true_eq] at h
  obtain ⟨h1, h2, h3, h4, h5⟩ := h
  have := span_bd h1.1 h1.2
  refine ⟨h1, h2, ?_, this.1, this.2, h4, h5⟩
  rw [← Int.tmod_eq_emod_of_nonneg h2.1]; exact h3
theorem span_le {b c : Int} (h0 : 0 ≤ b) (h1 : b ≤ c) (h2 : c ≤ 16) : ∃ q : Int, 0 ≤ q ∧ span b = span c * q := by
  refine ⟨2 ^ (c - b).toNat, Int.le_of_lt (Int.pow_pos (by decide)), ?_⟩
  rw [span, span, ← Int.pow_add]
  congr 1
  omega
theorem fits_wide {z x : RE} {y : Int} (hz : rOkB z = true) (hx : rOkB x = true) (hb : z.b ≤ x.b) (hy : fitsB x y = true) : fitsB z y = fitsB z x.a := by
  have kz := rOk_mem hz
  have kx := rOk_mem hx
  simp only [fitsB, Bool.and_eq_true, decide_eq_true_eq, hx] at hy
  obtain ⟨⟨_, hin⟩, hq⟩ := hy
  have hin2 : inZ x.a 0 65535 = true := by simp only [inZ, decide_eq_true_eq]; omega
  obtain ⟨q, hq0, hs⟩ := span_le kz.1.1 hb kx.1.2
  have hd : ∀ w : Int, w / span z.b = w / span x.b / q := fun w => by
    rw [hs, Int.ediv_ediv_of_nonneg (by omega)]
  rw [fitsB, fitsB, hin, hin2, hd y, hd x.a, hq]
theorem lastFit_app (l t : List RE) (x : Int) : lastFit (l ++ t) x = (lastFit t x).or (lastFit l x) := by
  rw [lastFit, List.reverse_append, List.find?_append]; rfl
theorem lastFit_one (e : RE) (x : Int) : lastFit [e] x = if fitsB e x = true then some e else none := by
  rw [lastFit, List.reverse_singleton, List.find?_cons]
  cases fitsB e x <;> rfl
theorem lastFit_mem {l : List RE} {x : Int} {e : RE} (h : lastFit l x = some e) : e ∈ l ∧ fitsB e x = true :=
  ⟨List.mem_reverse.1 (List.mem_of_find?_eq_some h), List.find?_some (p := fun e => fitsB e x) h⟩
theorem withR_mem {r : RE} : ∀ {l : List RE}, OKS l → rOkB r = true → ∀ e, e ∈ withR l r ↔ e = r ∨ (e ∈ l ∧ keyB e r = false)
  | [], _, _, e => by simp [withR]
  | x :: t, h, hr, e => by
    have ht := h.hd
    have ih := withR_mem (l := t) h.tail hr e
    rw [withR]
    by_cases h1 : aheadB x r = true
    · rw [if_pos h1, List.mem_cons, ih, List.mem_cons]
      have hk : keyB x r = false := by
        simp only [aheadB, decide_eq_true_eq] at h1
        rw [Bool.eq_false_iff, keyB, ne_eq, Bool.and_eq_true, decide_eq_true_eq, decide_eq_true_eq]; omega
      constructor
      · rintro (rfl | rfl | ⟨q1, q2⟩)
        · exact .inr ⟨.inl rfl, hk⟩
        · exact .inl rfl
        · exact .inr ⟨.inr q1, q2⟩
      · rintro (rfl | ⟨rfl | q1, q2⟩)
        · exact .inr (.inl rfl)
        · exact .inl rfl
        · exact .inr (.inr ⟨q1, q2⟩)
    · rw [if_neg h1]
      have hkt : ∀ y ∈ t, keyB y r = false := fun y hy => by
        have := ht y hy
        simp only [aheadB, decide_eq_true_eq] at h1 this
        rw [Bool.eq_false_iff, keyB, ne_eq, Bool.and_eq_true, decide_eq_true_eq, decide_eq_true_eq]; omega
      by_cases h2 : aheadB r x = true
      · have hk : keyB x r = false := by
          simp only [aheadB, decide_eq_true_eq] at h2
          rw [Bool.eq_false_iff, keyB, ne_eq, Bool.and_eq_true, decide_eq_true_eq, decide_eq_true_eq]; omega
        rw [if_pos h2, List.mem_cons]
        constructor
        · rintro (rfl | q)
          · exact .inl rfl
          · refine .inr ⟨q, ?_⟩
            rcases List.mem_cons.1 q with rfl | q
            · exact hk
            · exact hkt e q
        · rintro (rfl | ⟨q, _⟩)
          · exact .inl rfl
          · exact .inr q
      · have hk : keyB x r = true := by
          simp only [aheadB, decide_eq_true_eq] at h1 h2
          rw [keyB, Bool.and_eq_true, decide_eq_true_eq, decide_eq_true_eq]; omega
        rw [if_neg h2, List.mem_cons]
        constructor
        · rintro (rfl | q)
          · exact .inl rfl
          · exact .inr ⟨List.mem_cons_of_mem _ q, hkt e q⟩
        · rintro (rfl | ⟨q, q2⟩)
          · exact .inl rfl
          · rcases List.mem_cons.1 q with rfl | q
            · rw [hk] at q2; cases q2
            · exact .inr q
theorem withR_ok {r : RE} : ∀ {l : List RE}, OKS l → rOkB r = true → OKS (withR l r)
  | [], _, hr => ⟨fun e he => by simp [withR] at he; rw [he]; exact hr, by simp [withR]⟩
  | x :: t, h, hr => by
    have ht := h.hd
    refine ⟨fun e he => ?_, ?_⟩
    · rcases (withR_mem h hr e).1 he with rfl | ⟨q, _⟩
      · exact hr
      · exact h.1 e q
    · rw [withR]
      by_cases h1 : aheadB x r = true
      · rw [if_pos h1, List.pairwise_cons]
        refine ⟨fun e he => ?_, (withR_ok h.tail hr).2⟩
        rcases (withR_mem h.tail hr e).1 he with rfl | ⟨q, _⟩
        · exact h1
        · exact ht e q
      · rw [if_neg h1]
        by_cases h2 : aheadB r x = true
        · rw [if_pos h2, List.pairwise_cons]
          refine ⟨fun e he => ?_, h.2⟩
          rcases List.mem_cons.1 he with rfl | q
          · exact h2
          · exact ahead_trans h2 (ht e q)
        · rw [if_neg h2, List.pairwise_cons]
          refine ⟨fun e he => ?_, h.tail.2⟩
          have := ht e he
          simp only [aheadB, decide_eq_true_eq] at h1 h2 this ⊢
          omega
theorem sPutF_t (r : RE) : ∀ l : List RE, (∀ x ∈ l, aheadB r x = true) → sPutF true l r = l
  | [], _ => rfl
  | x :: t, h => by
    have h1 := h x (List.mem_cons_self ..)
    have hk : keyB x r = false := by
      simp only [aheadB, decide_eq_true_eq] at h1
      rw [Bool.eq_false_iff, keyB, ne_eq, Bool.and_eq_true, decide_eq_true_eq, decide_eq_true_eq]; omega
    rw [sPutF, hk, Bool.true_or, sPutF_t r t fun y hy => h y (List.mem_cons_of_mem _ hy)]
    rfl
theorem sPutF_eq (r : RE) : ∀ l : List RE, OKS l → sPutF false l r = withR l r
  | [], _ => rfl
  | x :: t, h => by
    have ih := sPutF_eq r t h.tail
    rw [sPutF, withR, Bool.false_or]
    by_cases h1 : aheadB x r = true
    · have hk : keyB x r = false := by
        simp only [aheadB, decide_eq_true_eq] at h1
        rw [Bool.eq_false_iff, keyB, ne_eq, Bool.and_eq_true, decide_eq_true_eq, decide_eq_true_eq]; omega
      rw [if_pos h1, h1, hk]
      simp [ih]
    · have h1' : aheadB x r = false := by simpa using h1
      have ht : ∀ y ∈ t, aheadB r y = true := fun y hy => by
        have := h.hd y hy
        simp only [aheadB, decide_eq_true_eq] at h1 this ⊢
        omega
      rw [if_neg h1, h1', Bool.not_false, sPutF_t r t ht]
      by_cases h2 : aheadB r x = true
      · have hk : keyB x r = false := by
          simp only [aheadB, decide_eq_true_eq] at h2
          rw [Bool.eq_false_iff, keyB, ne_eq, Bool.and_eq_true, decide_eq_true_eq, decide_eq_true_eq]; omega
        rw [if_pos h2, hk]; simp
      · have hk : keyB x r = true := by
          simp only [aheadB, decide_eq_true_eq] at h1 h2
          rw [keyB, Bool.and_eq_true, decide_eq_true_eq, decide_eq_true_eq]; omega
        rw [if_neg h2, hk]; simp
def VR : Option RE → Option (Int × Int)
  | none => none
  | some e => some (e.v, e.m)
theorem said_look {acc : List RE} {x : RE} (h : OKS (acc ++ [x])) (hs : saidB acc x = true) {y : Int} (hy : fitsB x y = true) : VR (lastFit acc y) = some (x.v, x.m) := by
  have hx := h.1 x (by simp)
  have e : lastFit acc y = lastFit acc x.a := by
    rw [lastFit, lastFit]
    have : ∀ z ∈ acc.reverse, fitsB z y = fitsB z x.a := fun z hz => by
      have hz' := List.mem_reverse.1 hz
      have hb := (List.pairwise_append.1 h.2).2.2 z hz' x (by simp)
      simp only [aheadB, decide_eq_true_eq] at hb
      exact fits_wide (h.1 z (by simp [hz'])) hx (by omega) hy
    generalize acc.reverse = l at this
    induction l with
    | nil => rfl
    | cons z l ih =>
      rw [List.find?_cons, List.find?_cons, this z (List.mem_cons_self ..), ih fun w hw => this w (List.mem_cons_of_mem _ hw)]
  rw [e]
  rw [saidB] at hs
  split at hs
  · rename_i s hq
    rw [Bool.and_eq_true, decide_eq_true_eq, decide_eq_true_eq] at hs
    rw [hq, VR, hs.1, hs.2]
  · cases hs
theorem lessF_ok : ∀ (l acc : List RE), OKS (acc ++ l) → OKS (lessF acc l) ∧ (lessF acc l).Sublist (acc ++ l) ∧ ∀ y, VR (lastFit (lessF acc l) y) = VR (lastFit (acc ++ l) y)
  | [], acc, h => by
    rw [List.append_nil] at h
    rw [lessF, List.append_nil]
    exact ⟨h, List.Sublist.refl _, fun y => rfl⟩
  | x :: t, acc, h => by
    have hsub : (acc ++ t).Sublist (acc ++ x :: t) := (List.Sublist.refl acc).append (List.sublist_cons_self x t)
    rw [lessF]
    by_cases hs : saidB acc x = true
    · rw [if_pos hs]
      obtain ⟨h1, h2, h3⟩ := lessF_ok t acc (h.sub hsub)
      refine ⟨h1, h2.trans hsub, fun y => ?_⟩
      rw [h3 y, lastFit_app, show acc ++ x :: t = (acc ++ [x]) ++ t by simp, lastFit_app (acc ++ [x]), lastFit_app acc [x], lastFit_one]
      cases ht : lastFit t y with
      | some e => rfl
      | none =>
        rw [Option.none_or, Option.none_or]
        by_cases hf : fitsB x y = true
        · rw [if_pos hf, Option.some_or]
          refine said_look (h.sub ?_) hs hf
          exact (List.Sublist.refl acc).append (by simp)
        · rw [if_neg hf, Option.none_or]
    · rw [if_neg hs]
      have e : acc ++ x :: t = (acc ++ [x]) ++ t := by simp
      rw [e] at h ⊢
      exact lessF_ok t (acc ++ [x]) h
def redF : List RE → List RE → Prop
  | _, [] => True
  | acc, x :: t => saidB acc x = false ∧ redF (acc ++ [x]) t
theorem redF_snoc (x : RE) : ∀ (l acc : List RE), redF acc (l ++ [x]) ↔ redF acc l ∧ saidB (acc ++ l) x = false
  | [], acc => by simp [redF]
  | y :: l, acc => by
    rw [List.cons_append, redF, redF, redF_snoc x l (acc ++ [y]), and_assoc]
    simp
theorem lessF_red : ∀ (l acc : List RE), redF [] acc → redF [] (lessF acc l)
  | [], acc, h => h
  | x :: t, acc, h => by
    rw [lessF]
    by_cases hs : saidB acc x = true
    · rw [if_pos hs]; exact lessF_red t acc h
    · rw [if_neg hs]
      exact lessF_red t (acc ++ [x]) ((redF_snoc x acc []).2 ⟨h, by simpa using hs⟩)
theorem lessF_id : ∀ (l acc : List RE), redF acc l → lessF acc l = acc ++ l
  | [], acc, _ => by simp [lessF]
  | x :: t, acc, h => by
    rw [lessF, if_neg (by rw [h.1]; decide), lessF_id t _ h.2]
    simp
theorem less_again {l : List RE} (h : OKS l) : lessF [] (lessF [] l) = lessF [] l := by
  have := lessF_id (lessF [] l) [] (lessF_red l [] trivial)
  simpa using this
end Go.Proofs.Ytegffkmakkccaaa
