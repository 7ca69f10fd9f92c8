import Derived.Test.YtlhgbpgikgkecaaYa
namespace Go.Proofs.Ytlhgbpgikgkecaa
open Go.RowKit
set_option linter.unusedSimpArgs false
set_option linter.unusedVariables false

/-! lists of routes -/
def rAt (l : List RE) (i : Nat) : Bool := rOkB (l.getD i rt0) && (decide (i = 0) || aheadB (l.getD (i - 1) rt0) (l.getD i rt0))
def rsAll (l : List RE) : Bool := (List.range l.length).all (rAt l)
def rsB (l : List RE) : Bool := decide (l.length ≤ 8) && rsAll l
def lastFit (l : List RE) (x : Int) : Option RE := l.reverse.find? fun e => fitsB e x
def toV (l : List RE) (x : Int) : RE × Bool := if rsB l = true then (match lastFit l x with | some e => (e, true) | none => (rt0, false)) else (rt0, false)
def keyB (x y : RE) : Bool := decide (x.b = y.b) && decide (x.a = y.a)
def withR : List RE → RE → List RE
  | [], r => [r]
  | x :: t, r => if aheadB x r = true then x :: withR t r else if aheadB r x = true then r :: x :: t else r :: t
def sPutF : Bool → List RE → RE → List RE
  | d, [], r => if d = true then [] else [r]
  | d, x :: t, r => (if (!d && !aheadB x r) = true then [r] else []) ++ ((if keyB x r = true then [] else [x]) ++ sPutF (d || !aheadB x r) t r)
def putB (l : List RE) (r : RE) : Bool := rsB l && rOkB r && decide ((withR l r).length ≤ 8)
def putV (l : List RE) (r : RE) : List RE := if putB l r = true then withR l r else []
def dropV (l : List RE) (a b : Int) : List RE := if rsB l = true then l.filter (fun e => !(decide (e.a = a) && decide (e.b = b))) else []
def dropB (l : List RE) (a b : Int) : Bool := rsB l && l.any fun e => decide (e.a = a) && decide (e.b = b)
def saidB (l : List RE) (r : RE) : Bool := match lastFit l r.a with | some s => decide (s.v = r.v) && decide (s.m = r.m) | none => false
def lessF : List RE → List RE → List RE
  | acc, [] => acc
  | acc, x :: t => if saidB acc x = true then lessF acc t else lessF (acc ++ [x]) t
def lessV (l : List RE) : List RE := if rsB l = true then lessF [] l else []
def needB (l : List RE) (r : RE) : Bool := match l.reverse.find? (fun e => decide (e.b < r.b) && fitsB e r.a) with | some s => !(decide (s.v = r.v) && decide (s.m = r.m)) | none => true

def OKS (l : List RE) : Prop := (∀ e ∈ l, rOkB e = true) ∧ l.Pairwise fun x y => aheadB x y = true
theorem ahead_trans {x y z : RE} (h1 : aheadB x y = true) (h2 : aheadB y z = true) : aheadB x z = true := by
  simp only [aheadB, decide_eq_true_eq] at *; omega
theorem ahead_irr {x : RE} : aheadB x x = false := by
  simp [aheadB]
theorem rAt_get {l : List RE} {i : Nat} (h : i < l.length) : rAt l i = (rOkB l[i] && (decide (i = 0) || aheadB (l[i - 1]'(by omega)) l[i])) := by
  have h' : i - 1 < l.length := by omega
  simp [rAt, List.getD, h, h']
theorem rsAll_iff {l : List RE} : rsAll l = true ↔ OKS l := by
  constructor
  · intro h
    have h' : ∀ i (hi : i < l.length), rAt l i = true := fun i hi => List.all_eq_true.1 h i (List.mem_range.2 hi)
    refine ⟨fun e he => ?_, List.pairwise_iff_getElem.2 fun i j hi hj hij => ?_⟩
    · obtain ⟨i, hi, rfl⟩ := List.getElem_of_mem he
      have := h' i hi
      rw [rAt_get hi, Bool.and_eq_true] at this
      exact this.1
    · induction j with
      | zero => omega
      | succ j ih =>
        have := h' (j + 1) hj
        rw [rAt_get hj, Bool.and_eq_true, Bool.or_eq_true] at this
        have h2 : aheadB (l[j]'(by omega)) l[j + 1] = true := by
          rcases this.2 with h2 | h2
          · simp at h2
          · exact h2
        by_cases e : i = j
        · subst e; exact h2
        · exact ahead_trans (ih (by omega) (by omega)) h2
  · rintro ⟨h1, h2⟩
    refine List.all_eq_true.2 fun i hi => ?_
    have hi := List.mem_range.1 hi
    rw [rAt_get hi, Bool.and_eq_true, Bool.or_eq_true]
    refine ⟨h1 _ (List.getElem_mem hi), ?_⟩
    by_cases e : i = 0
    · left; simp [e]
    · right; exact (List.pairwise_iff_getElem.1 h2) (i - 1) i (by omega) hi (by omega)
theorem rsB_iff {l : List RE} : rsB l = true ↔ l.length ≤ 8 ∧ OKS l := by
  rw [rsB, Bool.and_eq_true, decide_eq_true_eq, rsAll_iff]
theorem OKS.sub {l l' : List RE} (h : OKS l) (s : l'.Sublist l) : OKS l' := ⟨fun e he => h.1 e (s.subset he), h.2.sublist s⟩
theorem OKS.nil : OKS [] := ⟨fun e he => (List.not_mem_nil he).elim, List.Pairwise.nil⟩
theorem OKS.tail {x : RE} {l : List RE} (h : OKS (x :: l)) : OKS l := h.sub (List.sublist_cons_self x l)
theorem OKS.hd {x : RE} {l : List RE} (h : OKS (x :: l)) : ∀ e ∈ l, aheadB x e = true := (List.pairwise_cons.1 h.2).1
theorem OKS.key {l : List RE} : OKS l → ∀ {x y : RE}, x ∈ l → y ∈ l → x.a = y.a → x.b = y.b → x = y := by
  induction l with
  | nil => intro _ x y hx; cases hx
  | cons z l ih =>
    intro h x y hx hy ea eb
    rcases List.mem_cons.1 hx with hx1 | hx1 <;> rcases List.mem_cons.1 hy with hy1 | hy1
    · rw [hx1, hy1]
    · have := h.hd y hy1
      simp only [aheadB, decide_eq_true_eq, ← hx1] at this; omega
    · have := h.hd x hx1
      simp only [aheadB, decide_eq_true_eq, ← hy1] at this; omega
    · exact ih h.tail hx1 hy1 ea eb

/-! which addresses a route fits -/
theorem rOk_mem {e : RE} (h : rOkB e = true) : (0 ≤ e.b ∧ e.b ≤ 16) ∧ (0 ≤ e.a ∧ e.a ≤ 65535) ∧ e.a % span e.b = 0 ∧ 1 ≤ span e.b ∧ span e.b ≤ 65536 ∧ (0 ≤ e.v ∧ e.v ≤ 65535) ∧ 1 ≤ e.m ∧ e.m ≤ 48 := by
  simp only [rOkB, decide_eq_true_eq] at h
  obtain ⟨h1, h2, h3, h4, h5⟩ := h
  have := span_bd h1.1 h1.2
  refine ⟨h1, h2, ?_, this.1, this.2, h4, h5⟩
  rw [← Int.tmod_eq_emod_of_nonneg h2.1]; exact h3
theorem fits_same {e e' : RE} {x : Int} (h : fitsB e x = true) (h' : fitsB e' x = true) (hb : e.b = e'.b) : e.a = e'.a := by
  simp only [fitsB, Bool.and_eq_true, decide_eq_true_eq] at h h'
  have k := rOk_mem h.1.1
  have k' := rOk_mem h'.1.1
  have e1 := Int.mul_ediv_add_emod e.a (span e.b)
  have e2 := Int.mul_ediv_add_emod e'.a (span e'.b)
  rw [k.2.2.1, ← h.2] at e1
  rw [k'.2.2.1, ← h'.2, ← hb] at e2
  omega
theorem fits_key {e e' : RE} {x : Int} (h : rOkB e = true) (h' : rOkB e' = true) (ha : e.a = e'.a) (hb : e.b = e'.b) : fitsB e x = fitsB e' x := by
  rw [fitsB, fitsB, h, h', ha, hb]
theorem span_le {b c : Int} (h0 : 0 ≤ b) (h1 : b ≤ c) (h2 : c ≤ 16) : ∃ q : Int, 0 ≤ q ∧ span b = span c * q := by
  refine ⟨2 ^ (c - b).toNat, Int.le_of_lt (Int.pow_pos (by decide)), ?_⟩
  rw [span, span, ← Int.pow_add]
  congr 1
  omega
theorem fits_wide {z x : RE} {y : Int} (hz : rOkB z = true) (hx : rOkB x = true) (hb : z.b ≤ x.b) (hy : fitsB x y = true) : fitsB z y = fitsB z x.a := by
  have kz := rOk_mem hz
  have kx := rOk_mem hx
  simp only [fitsB, Bool.and_eq_true, decide_eq_true_eq, hx] at hy
  obtain ⟨⟨_, hin⟩, hq⟩ := hy
  have hin2 : inZ x.a 0 65535 = true := by simp only [inZ, decide_eq_true_eq]; omega
  obtain ⟨q, hq0, hs⟩ := span_le kz.1.1 hb kx.1.2
  have hd : ∀ w : Int, w / span z.b = w / span x.b / q := fun w => by
    rw [hs, Int.ediv_ediv_of_nonneg (by omega)]
  rw [fitsB, fitsB, hin, hin2, hd y, hd x.a, hq]
theorem fits_range {e : RE} (h : rOkB e = true) (x : Int) : fitsB e x = decide (e.a ≤ x ∧ x < e.a + span e.b) := by
  obtain ⟨h1, h2, h3, h4, h5, _⟩ := rOk_mem h
  obtain ⟨q, hq0, hs⟩ := span_le (b := 0) (c := e.b) (by omega) h1.1 h1.2
  have hs0 : span 0 = 65536 := by decide
  have ea := Int.mul_ediv_add_emod e.a (span e.b)
  rw [h3] at ea
  have hle : e.a + span e.b ≤ 65536 := by
    have hlt : e.a / span e.b < q := by
      refine Int.ediv_lt_of_lt_mul (by omega) ?_
      rw [Int.mul_comm, ← hs, hs0]; omega
    have : span e.b * (e.a / span e.b + 1) ≤ span e.b * q := Int.mul_le_mul_of_nonneg_left (by omega) (by omega)
    rw [← hs, hs0, Int.mul_add] at this
    omega
  rw [fitsB, h, Bool.true_and, Bool.eq_iff_iff, Bool.and_eq_true, decide_eq_true_eq, decide_eq_true_eq, inZ, decide_eq_true_eq]
  have ex := Int.mul_ediv_add_emod x (span e.b)
  have m0 := Int.emod_nonneg x (b := span e.b) (by omega)
  have m1 := Int.emod_lt_of_pos x (b := span e.b) (by omega)
  constructor
  · rintro ⟨_, hq⟩
    rw [hq] at ex
    omega
  · rintro ⟨a1, a2⟩
    refine ⟨by omega, ?_⟩
    have e2 : x = (x - e.a) + span e.b * (e.a / span e.b) := by omega
    rw [e2, Int.add_mul_ediv_left _ _ (by omega), Int.ediv_eq_zero_of_lt (by omega) (by omega)]
    omega

/-! the longest one that fits -/
theorem lastFit_app (l t : List RE) (x : Int) : lastFit (l ++ t) x = (lastFit t x).or (lastFit l x) := by
  rw [lastFit, List.reverse_append, List.find?_append]; rfl
theorem lastFit_one (e : RE) (x : Int) : lastFit [e] x = if fitsB e x = true then some e else none := by
  rw [lastFit, List.reverse_singleton, List.find?_cons]
  cases fitsB e x <;> rfl
theorem lastFit_mem {l : List RE} {x : Int} {e : RE} (h : lastFit l x = some e) : e ∈ l ∧ fitsB e x = true :=
  ⟨List.mem_reverse.1 (List.mem_of_find?_eq_some h), List.find?_some (p := fun e => fitsB e x) h⟩
theorem lastFit_none {l : List RE} {x : Int} : lastFit l x = none ↔ ∀ e ∈ l, fitsB e x = false := by
  simp [lastFit, List.find?_eq_none]
theorem lastFit_max {l : List RE} (h : OKS l) {x : Int} {e : RE} (he : lastFit l x = some e) : ∀ e' ∈ l, fitsB e' x = true → e'.b ≤ e.b := by
  obtain ⟨hf, u1, u2, hl, hn⟩ := List.find?_eq_some_iff_append.1 he
  intro e' he' hf'
  have hl' : l = u2.reverse ++ e :: u1.reverse := by
    have := congrArg List.reverse hl
    simpa using this
  rw [hl', List.mem_append, List.mem_cons] at he'
  rcases he' with he' | rfl | he'
  · rw [hl'] at h
    have := (List.pairwise_append.1 h.2).2.2 e' he' e (List.mem_cons_self ..)
    simp only [aheadB, decide_eq_true_eq] at this; omega
  · omega
  · have := hn e' (by simpa using he')
    rw [hf'] at this
    simp at this
theorem lastFit_iff {l : List RE} (h : OKS l) {x : Int} {e : RE} : lastFit l x = some e ↔ e ∈ l ∧ fitsB e x = true ∧ ∀ e' ∈ l, fitsB e' x = true → e'.b ≤ e.b := by
  constructor
  · intro he
    exact ⟨(lastFit_mem he).1, (lastFit_mem he).2, lastFit_max h he⟩
  · rintro ⟨h1, h2, h3⟩
    cases hq : lastFit l x with
    | none => rw [lastFit_none.1 hq e h1] at h2; cases h2
    | some q =>
      obtain ⟨q1, q2⟩ := lastFit_mem hq
      have b1 := lastFit_max h hq e h1 h2
      have b2 := h3 q q1 q2
      have hb : q.b = e.b := by omega
      rw [h.key q1 h1 (fits_same q2 h2 hb) hb]

/-! a route is put -/
theorem withR_mem {r : RE} : ∀ {l : List RE}, OKS l → rOkB r = true → ∀ e, e ∈ withR l r ↔ e = r ∨ (e ∈ l ∧ keyB e r = false)
  | [], _, _, e => by simp [withR]
  | x :: t, h, hr, e => by
    have ht := h.hd
    have ih := withR_mem (l := t) h.tail hr e
    rw [withR]
    by_cases h1 : aheadB x r = true
    · rw [if_pos h1, List.mem_cons, ih, List.mem_cons]
      have hk : keyB x r = false := by
        simp only [aheadB, decide_eq_true_eq] at h1
        rw [Bool.eq_false_iff, keyB, ne_eq, Bool.and_eq_true, decide_eq_true_eq, decide_eq_true_eq]; omega
      constructor
      · rintro (rfl | rfl | ⟨q1, q2⟩)
        · exact .inr ⟨.inl rfl, hk⟩
        · exact .inl rfl
        · exact .inr ⟨.inr q1, q2⟩
      · rintro (rfl | ⟨rfl | q1, q2⟩)
        · exact .inr (.inl rfl)
        · exact .inl rfl
        · exact .inr (.inr ⟨q1, q2⟩)
    · rw [if_neg h1]
      have hkt : ∀ y ∈ t, keyB y r = false := fun y hy => by
        have := ht y hy
        simp only [aheadB, decide_eq_true_eq] at h1 this
        rw [Bool.eq_false_iff, keyB, ne_eq, Bool.and_eq_true, decide_eq_true_eq, decide_eq_true_eq]; omega
      by_cases h2 : aheadB r x = true
      · have hk : keyB x r = false := by
          simp only [aheadB, decide_eq_true_eq] at h2
          rw [Bool.eq_false_iff, keyB, ne_eq, Bool.and_eq_true, decide_eq_true_eq, decide_eq_true_eq]; omega
        rw [if_pos h2, List.mem_cons]
        constructor
        · rintro (rfl | q)
          · exact .inl rfl
          · refine .inr ⟨q, ?_⟩
            rcases List.mem_cons.1 q with rfl | q
            · exact hk
            · exact hkt e q
        · rintro (rfl | ⟨q, _⟩)
          · exact .inl rfl
          · exact .inr q
      · have hk : keyB x r = true := by
          simp only [aheadB, decide_eq_true_eq] at h1 h2
          rw [keyB, Bool.and_eq_true, decide_eq_true_eq, decide_eq_true_eq]; omega
        rw [if_neg h2, List.mem_cons]
        constructor
        · rintro (rfl | q)
          · exact .inl rfl
          · exact .inr ⟨List.mem_cons_of_mem _ q, hkt e q⟩
        · rintro (rfl | ⟨q, q2⟩)
          · exact .inl rfl
          · rcases List.mem_cons.1 q with rfl | q
            · rw [hk] at q2; cases q2
            · exact .inr q
theorem withR_ok {r : RE} : ∀ {l : List RE}, OKS l → rOkB r = true → OKS (withR l r)
  | [], _, hr => ⟨fun e he => by simp [withR] at he; rw [he]; exact hr, by simp [withR]⟩
  | x :: t, h, hr => by
    have ht := h.hd
    refine ⟨fun e he => ?_, ?_⟩
    · rcases (withR_mem h hr e).1 he with rfl | ⟨q, _⟩
      · exact hr
      · exact h.1 e q
    · rw [withR]
      by_cases h1 : aheadB x r = true
      · rw [if_pos h1, List.pairwise_cons]
        refine ⟨fun e he => ?_, (withR_ok h.tail hr).2⟩
        rcases (withR_mem h.tail hr e).1 he with rfl | ⟨q, _⟩
        · exact h1
        · exact ht e q
      · rw [if_neg h1]
        by_cases h2 : aheadB r x = true
        · rw [if_pos h2, List.pairwise_cons]
          refine ⟨fun e he => ?_, h.2⟩
          rcases List.mem_cons.1 he with rfl | q
          · exact h2
          · exact ahead_trans h2 (ht e q)
        · rw [if_neg h2, List.pairwise_cons]
          refine ⟨fun e he => ?_, h.tail.2⟩
          have := ht e he
          simp only [aheadB, decide_eq_true_eq] at h1 h2 this ⊢
          omega
/-- where a route is put -/
def putAt' (l : List RE) (r : RE) : Nat := (l.takeWhile fun x => aheadB x r).length
theorem withR_at (r : RE) : ∀ l : List RE, withR l r = l.take (putAt' l r) ++ r :: l.drop (putAt' l r + (if putAt' l r < l.length ∧ aheadB r (l.getD (putAt' l r) rt0) = false then 1 else 0))
  | [] => by simp [withR, putAt']
  | x :: t => by
    have ih := withR_at r t
    rw [withR]
    by_cases h1 : aheadB x r = true
    · have e : putAt' (x :: t) r = putAt' t r + 1 := by simp [putAt', List.takeWhile_cons, h1]
      rw [if_pos h1, e, ih]
      simp only [List.take_succ_cons, List.cons_append, List.length_cons, List.getD_cons_succ, Nat.add_lt_add_iff_right]
      congr 3
      rw [Nat.add_right_comm, List.drop_succ_cons]
    · have e : putAt' (x :: t) r = 0 := by simp [putAt', List.takeWhile_cons, h1]
      rw [if_neg h1, e]
      by_cases h2 : aheadB r x = true
      · simp [h2]
      · have h2' : aheadB r x = false := by simpa using h2
        simp [h2']
theorem putAt_spec (r : RE) (l : List RE) : putAt' l r ≤ l.length ∧ (∀ i (h : i < putAt' l r), aheadB (l.getD i rt0) r = true) ∧ (putAt' l r < l.length → aheadB (l.getD (putAt' l r) rt0) r = false) := by
  induction l with
  | nil => simp [putAt']
  | cons x t ih =>
    by_cases h1 : aheadB x r = true
    · have e : putAt' (x :: t) r = putAt' t r + 1 := by simp [putAt', List.takeWhile_cons, h1]
      rw [e]
      refine ⟨by simp; exact ih.1, fun i hi => ?_, fun hi => ?_⟩
      · cases i with
        | zero => simpa using h1
        | succ i => simpa using ih.2.1 i (by omega)
      · simpa using ih.2.2 (by simpa using hi)
    · have e : putAt' (x :: t) r = 0 := by simp [putAt', List.takeWhile_cons, h1]
      rw [e]
      exact ⟨by simp, fun i hi => by omega, fun _ => by simpa using h1⟩
theorem sPutF_t (r : RE) : ∀ l : List RE, (∀ x ∈ l, aheadB r x = true) → sPutF true l r = l
  | [], _ => rfl
  | x :: t, h => by
    have h1 := h x (List.mem_cons_self ..)
    have hk : keyB x r = false := by
      simp only [aheadB, decide_eq_true_eq] at h1
      rw [Bool.eq_false_iff, keyB, ne_eq, Bool.and_eq_true, decide_eq_true_eq, decide_eq_true_eq]; omega
    rw [sPutF, hk, Bool.true_or, sPutF_t r t fun y hy => h y (List.mem_cons_of_mem _ hy)]
    rfl
theorem sPutF_eq (r : RE) : ∀ l : List RE, OKS l → sPutF false l r = withR l r
  | [], _ => rfl
  | x :: t, h => by
    have ih := sPutF_eq r t h.tail
    rw [sPutF, withR, Bool.false_or]
    by_cases h1 : aheadB x r = true
    · have hk : keyB x r = false := by
        simp only [aheadB, decide_eq_true_eq] at h1
        rw [Bool.eq_false_iff, keyB, ne_eq, Bool.and_eq_true, decide_eq_true_eq, decide_eq_true_eq]; omega
      rw [if_pos h1, h1, hk]
      simp [ih]
    · have h1' : aheadB x r = false := by simpa using h1
      have ht : ∀ y ∈ t, aheadB r y = true := fun y hy => by
        have := h.hd y hy
        simp only [aheadB, decide_eq_true_eq] at h1 this ⊢
        omega
      rw [if_neg h1, h1', Bool.not_false, sPutF_t r t ht]
      by_cases h2 : aheadB r x = true
      · have hk : keyB x r = false := by
          simp only [aheadB, decide_eq_true_eq] at h2
          rw [Bool.eq_false_iff, keyB, ne_eq, Bool.and_eq_true, decide_eq_true_eq, decide_eq_true_eq]; omega
        rw [if_pos h2, hk]; simp
      · have hk : keyB x r = true := by
          simp only [aheadB, decide_eq_true_eq] at h1 h2
          rw [keyB, Bool.and_eq_true, decide_eq_true_eq, decide_eq_true_eq]; omega
        rw [if_neg h2, hk]; simp

/-- what a route that is put turns -/
theorem put_other {l : List RE} {r : RE} (h : OKS l) (hr : rOkB r = true) {x : Int} (hf : fitsB r x = false) : lastFit (withR l r) x = lastFit l x := by
  have ho := withR_ok h hr
  refine Option.ext fun e => ?_
  rw [lastFit_iff ho, lastFit_iff h]
  have hk : ∀ e, e ∈ l → keyB e r = true → fitsB e x = false := fun e he hk => by
    rw [keyB, Bool.and_eq_true, decide_eq_true_eq, decide_eq_true_eq] at hk
    rw [fits_key (h.1 e he) hr hk.2 hk.1, hf]
  constructor
  · rintro ⟨a1, a2, a3⟩
    rcases (withR_mem h hr e).1 a1 with rfl | ⟨q1, q2⟩
    · rw [hf] at a2; cases a2
    · refine ⟨q1, a2, fun e' h1 h2 => ?_⟩
      cases hk' : keyB e' r with
      | true => rw [hk e' h1 hk'] at h2; cases h2
      | false => exact a3 e' ((withR_mem h hr e').2 (.inr ⟨h1, hk'⟩)) h2
  · rintro ⟨a1, a2, a3⟩
    refine ⟨(withR_mem h hr e).2 (.inr ⟨a1, ?_⟩), a2, fun e' h1 h2 => ?_⟩
    · cases hk' : keyB e r with
      | true => rw [hk e a1 hk'] at a2; cases a2
      | false => rfl
    · rcases (withR_mem h hr e').1 h1 with rfl | ⟨q1, q2⟩
      · rw [hf] at h2; cases h2
      · exact a3 e' q1 h2
theorem put_same {l : List RE} {r : RE} (h : OKS l) (hr : rOkB r = true) {x : Int} (hf : fitsB r x = true) : lastFit (withR l r) x = some r ∨ ∃ e, lastFit (withR l r) x = some e ∧ lastFit l x = some e ∧ r.b < e.b := by
  have ho := withR_ok h hr
  have hrm := (withR_mem h hr r).2 (.inl rfl)
  cases hq : lastFit (withR l r) x with
  | none => rw [lastFit_none.1 hq r hrm] at hf; cases hf
  | some e =>
    obtain ⟨a1, a2, a3⟩ := (lastFit_iff ho).1 hq
    rcases (withR_mem h hr e).1 a1 with rfl | ⟨q1, q2⟩
    · exact .inl rfl
    · right
      have hb := a3 r hrm hf
      have hne : e.b ≠ r.b := fun hb' => by
        have := fits_same a2 hf hb'
        rw [Bool.eq_false_iff, keyB, ne_eq, Bool.and_eq_true, decide_eq_true_eq, decide_eq_true_eq] at q2
        exact q2 ⟨hb', this⟩
      refine ⟨e, rfl, (lastFit_iff h).2 ⟨q1, a2, fun e' h1 h2 => ?_⟩, by omega⟩
      cases hk' : keyB e' r with
      | true =>
        rw [keyB, Bool.and_eq_true, decide_eq_true_eq, decide_eq_true_eq] at hk'
        omega
      | false => exact a3 e' ((withR_mem h hr e').2 (.inr ⟨h1, hk'⟩)) h2

/-! a route is dropped, and put again -/
theorem drop_put : ∀ {l : List RE}, OKS l → ∀ {e : RE}, e ∈ l → withR (l.filter fun x => !(decide (x.a = e.a) && decide (x.b = e.b))) e = l
  | [], _, e, he => by cases he
  | x :: t, h, e, he => by
    by_cases hk : x.a = e.a ∧ x.b = e.b
    · have hx : x = e := h.key (List.mem_cons_self ..) he hk.1 hk.2
      subst hx
      have ht : t.filter (fun y => !(decide (y.a = x.a) && decide (y.b = x.b))) = t := by
        refine List.filter_eq_self.2 fun y hy => ?_
        have := h.hd y hy
        simp only [aheadB, decide_eq_true_eq] at this
        rw [Bool.not_eq_true', Bool.and_eq_false_iff, decide_eq_false_iff_not, decide_eq_false_iff_not]
        omega
      rw [List.filter_cons, if_neg (by simp), ht]
      cases t with
      | nil => rfl
      | cons y t =>
        have := h.hd y (List.mem_cons_self ..)
        have h2 : ¬ aheadB y x = true := by
          simp only [aheadB, decide_eq_true_eq] at this ⊢
          omega
        rw [withR, if_neg h2, if_pos this]
    · have he' : e ∈ t := by
        rcases List.mem_cons.1 he with rfl | he'
        · exact (hk ⟨rfl, rfl⟩).elim
        · exact he'
      rw [List.filter_cons, if_pos (by simp only [Bool.not_eq_true', Bool.and_eq_false_iff, decide_eq_false_iff_not]; omega), withR, if_pos (h.hd e he'), drop_put h.tail he']

/-! fewer routes -/
def VR : Option RE → Option (Int × Int)
  | none => none
  | some e => some (e.v, e.m)
theorem said_look {acc : List RE} {x : RE} (h : OKS (acc ++ [x])) (hs : saidB acc x = true) {y : Int} (hy : fitsB x y = true) : VR (lastFit acc y) = some (x.v, x.m) := by
  have hx := h.1 x (by simp)
  have e : lastFit acc y = lastFit acc x.a := by
    rw [lastFit, lastFit]
    have : ∀ z ∈ acc.reverse, fitsB z y = fitsB z x.a := fun z hz => by
      have hz' := List.mem_reverse.1 hz
      have hb := (List.pairwise_append.1 h.2).2.2 z hz' x (by simp)
      simp only [aheadB, decide_eq_true_eq] at hb
      exact fits_wide (h.1 z (by simp [hz'])) hx (by omega) hy
    generalize acc.reverse = l at this
    induction l with
    | nil => rfl
    | cons z l ih =>
      rw [List.find?_cons, List.find?_cons, this z (List.mem_cons_self ..), ih fun w hw => this w (List.mem_cons_of_mem _ hw)]
  rw [e]
  rw [saidB] at hs
  split at hs
  · rename_i s hq
    rw [Bool.and_eq_true, decide_eq_true_eq, decide_eq_true_eq] at hs
    rw [hq, VR, hs.1, hs.2]
  · cases hs
theorem lessF_ok : ∀ (l acc : List RE), OKS (acc ++ l) → OKS (lessF acc l) ∧ (lessF acc l).Sublist (acc ++ l) ∧ ∀ y, VR (lastFit (lessF acc l) y) = VR (lastFit (acc ++ l) y)
  | [], acc, h => by
    rw [List.append_nil] at h
    rw [lessF, List.append_nil]
    exact ⟨h, List.Sublist.refl _, fun y => rfl⟩
  | x :: t, acc, h => by
    have hsub : (acc ++ t).Sublist (acc ++ x :: t) := (List.Sublist.refl acc).append (List.sublist_cons_self x t)
    rw [lessF]
    by_cases hs : saidB acc x = true
    · rw [if_pos hs]
      obtain ⟨h1, h2, h3⟩ := lessF_ok t acc (h.sub hsub)
      refine ⟨h1, h2.trans hsub, fun y => ?_⟩
      rw [h3 y, lastFit_app, show acc ++ x :: t = (acc ++ [x]) ++ t by simp, lastFit_app (acc ++ [x]), lastFit_app acc [x], lastFit_one]
      cases ht : lastFit t y with
      | some e => rfl
      | none =>
        rw [Option.none_or, Option.none_or]
        by_cases hf : fitsB x y = true
        · rw [if_pos hf, Option.some_or]
          refine said_look (h.sub ?_) hs hf
          exact (List.Sublist.refl acc).append (by simp)
        · rw [if_neg hf, Option.none_or]
    · rw [if_neg hs]
      have e : acc ++ x :: t = (acc ++ [x]) ++ t := by simp
      rw [e] at h ⊢
      exact lessF_ok t (acc ++ [x]) h
def redF : List RE → List RE → Prop
  | _, [] => True
  | acc, x :: t => saidB acc x = false ∧ redF (acc ++ [x]) t
theorem redF_snoc (x : RE) : ∀ (l acc : List RE), redF acc (l ++ [x]) ↔ redF acc l ∧ saidB (acc ++ l) x = false
  | [], acc => by simp [redF]
  | y :: l, acc => by
    rw [List.cons_append, redF, redF, redF_snoc x l (acc ++ [y]), and_assoc]
    simp
theorem lessF_red : ∀ (l acc : List RE), redF [] acc → redF [] (lessF acc l)
  | [], acc, h => h
  | x :: t, acc, h => by
    rw [lessF]
    by_cases hs : saidB acc x = true
    · rw [if_pos hs]; exact lessF_red t acc h
    · rw [if_neg hs]
      exact lessF_red t (acc ++ [x]) ((redF_snoc x acc []).2 ⟨h, by simpa using hs⟩)
theorem lessF_id : ∀ (l acc : List RE), redF acc l → lessF acc l = acc ++ l
  | [], acc, _ => by simp [lessF]
  | x :: t, acc, h => by
    rw [lessF, if_neg (by rw [h.1]; decide), lessF_id t _ h.2]
    simp
theorem less_again {l : List RE} (h : OKS l) : lessF [] (lessF [] l) = lessF [] l := by
  have := lessF_id (lessF [] l) [] (lessF_red l [] trivial)
  simpa using this
/-- what is needed, and what was said already -/
theorem need_said {acc : List RE} {x : RE} (h : OKS (acc ++ [x])) : needB acc x = !saidB acc x := by
  have e : acc.reverse.find? (fun e => decide (e.b < x.b) && fitsB e x.a) = lastFit acc x.a := by
    rw [lastFit]
    have : ∀ z ∈ acc.reverse, (decide (z.b < x.b) && fitsB z x.a) = fitsB z x.a := fun z hz => by
      have hz' := List.mem_reverse.1 hz
      have hb := (List.pairwise_append.1 h.2).2.2 z hz' x (by simp)
      cases hf : fitsB z x.a with
      | false => simp
      | true =>
        have hlt : z.b < x.b := by
          simp only [aheadB, decide_eq_true_eq] at hb
          rcases hb with hb | ⟨hb, ha⟩
          · exact hb
          · have hx := h.1 x (by simp)
            have hxf : fitsB x x.a = true := by
              have k := rOk_mem hx
              simp only [fitsB, hx, inZ, Bool.true_and, Bool.and_eq_true, decide_eq_true_eq, and_true]
              omega
            have := fits_same hf hxf hb
            omega
        simp [hlt]
    generalize acc.reverse = l at this
    induction l with
    | nil => rfl
    | cons z l ih =>
      rw [List.find?_cons, List.find?_cons, this z (List.mem_cons_self ..), ih fun w hw => this w (List.mem_cons_of_mem _ hw)]
  rw [needB, e, saidB]
  split <;> rfl
end Go.Proofs.Ytlhgbpgikgkecaa
