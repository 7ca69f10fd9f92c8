import Derived.Test.YtkfjaeoehhakpaaIc
set_option linter.unusedVariables false
set_option linter.unusedSimpArgs false
namespace Go.Proofs.Ytkfjaeoehhakpaa
open Go.RowKit
set_option linter.unusedSimpArgs false
theorem erS_ext : ∀ {l m : List Er}, erS l → erS m → (∀ x, x ∈ l ↔ x ∈ m) → l = m
  | [], [], _, _, _ => rfl
  | [], y :: m, _, _, h => nomatch (h y).2 (List.mem_cons_self ..)
  | x :: l, [], _, _, h => nomatch (h x).1 (List.mem_cons_self ..)
  | x :: l, y :: m, h1, h2, h => by
    obtain ⟨a1, a2⟩ := erS_cons.1 h1
    obtain ⟨b1, b2⟩ := erS_cons.1 h2
    have e : x = y := by
      rcases List.mem_cons.1 ((h x).1 (List.mem_cons_self ..)) with e | hx
      · exact e
      · rcases List.mem_cons.1 ((h y).2 (List.mem_cons_self ..)) with e | hy
        · exact e.symm
        · have := a1 y hy; have := b1 x hx; omega
    subst e
    refine congrArg (x :: ·) (erS_ext a2 b2 fun z => ⟨fun hz => ?_, fun hz => ?_⟩)
    · rcases List.mem_cons.1 ((h z).1 (List.mem_cons_of_mem _ hz)) with rfl | hz'
      · have := a1 _ hz; omega
      · exact hz'
    · rcases List.mem_cons.1 ((h z).2 (List.mem_cons_of_mem _ hz)) with rfl | hz'
      · have := b1 _ hz; omega
      · exact hz'
theorem erS_one : ∀ {l : List Er}, erS l → ∀ x ∈ l, ∀ y ∈ l, x.p = y.p → x = y
  | z :: t, h, x, hx, y, hy, e => by
    obtain ⟨h1, h2⟩ := erS_cons.1 h
    rcases List.mem_cons.1 hx with ex | hx1
    · rcases List.mem_cons.1 hy with ey | hy1
      · rw [ex, ey]
      · have := h1 y hy1; rw [ex] at e; omega
    · rcases List.mem_cons.1 hy with ey | hy1
      · have := h1 x hx1; rw [ey] at e; omega
      · exact erS_one h2 x hx1 y hy1 e
theorem erS_add {l : List Er} {x : Er} (h : erS l) (hx : ∀ y ∈ l, y.p < x.p) : erS (l ++ [x]) := by
  unfold erS at h ⊢
  rw [List.map_append, List.pairwise_append]
  refine ⟨h, by simp, fun a ha b hb => ?_⟩
  simp only [List.map_cons, List.map_nil, List.mem_singleton] at hb
  subst hb
  obtain ⟨y, hy, rfl⟩ := List.mem_map.1 ha
  exact hx y hy
def tkC (e : Ea) : Nat → Nat
  | 0 => 0
  | k + 1 => if tkC e k < e.fr.length ∧ (e.fr.getD (tkC e k) er0).p = e.n + (k : Int) then tkC e k + 1 else tkC e k
def tkL12 (e : Ea) (a : Int) (d : List UInt8) : Nat → List Er
  | 0 => []
  | k + 1 => if tkC e k < e.fr.length ∧ (e.fr.getD (tkC e k) er0).p = e.n + (k : Int) then tkL12 e a d k ++ [e.fr.getD (tkC e k) er0]
    else if a ≤ e.n + (k : Int) ∧ e.n + (k : Int) - a < (d.length : Int) then tkL12 e a d k ++ [⟨e.n + (k : Int), d.getD (e.n + (k : Int) - a).toNat 0⟩] else tkL12 e a d k
theorem tkL12_len (e : Ea) (a : Int) (d : List UInt8) : ∀ k, (tkL12 e a d k).length ≤ k
  | 0 => Nat.le_refl _
  | k + 1 => by
    have := tkL12_len e a d k
    rw [tkL12]
    split
    · simp only [List.length_append, List.length_cons, List.length_nil]; omega
    · split
      · simp only [List.length_append, List.length_cons, List.length_nil]; omega
      · omega
theorem tkC_inv {e : Ea} (hs : erS e.fr) (hn : ∀ x ∈ e.fr, e.n ≤ x.p) : ∀ k, tkC e k ≤ e.fr.length ∧ (∀ x ∈ e.fr.take (tkC e k), x.p < e.n + (k : Int)) ∧ ∀ x ∈ e.fr.drop (tkC e k), e.n + (k : Int) ≤ x.p
  | 0 => ⟨Nat.zero_le _, fun x hx => by simp [tkC] at hx, fun x hx => by have := hn x (List.mem_of_mem_drop hx); omega⟩
  | k + 1 => by
    obtain ⟨i1, i2, i3⟩ := tkC_inv hs hn k
    rw [tkC]
    split
    · rename_i h
      obtain ⟨h1, h2⟩ := h
      have eg : e.fr.getD (tkC e k) er0 = e.fr[tkC e k] := by rw [List.getD_eq_getElem?_getD, List.getElem?_eq_getElem h1]; rfl
      rw [eg] at h2
      have hdk : e.fr.drop (tkC e k) = e.fr[tkC e k] :: e.fr.drop (tkC e k + 1) := List.drop_eq_getElem_cons h1
      have hp : erS (e.fr.drop (tkC e k)) := by
        have hp : ((e.fr.map Er.p).drop (tkC e k)).Pairwise (· < ·) := hs.sublist (List.drop_sublist ..)
        rwa [← List.map_drop] at hp
      rw [hdk] at hp
      refine ⟨h1, fun x hx => ?_, fun x hx => ?_⟩
      · rw [List.take_add_one, List.getElem?_eq_getElem h1] at hx
        rcases List.mem_append.1 hx with hx | hx
        · have := i2 x hx; omega
        · simp only [Option.toList_some, List.mem_singleton] at hx
          subst hx; omega
      · have := (erS_cons.1 hp).1 x hx; omega
    · rename_i h
      refine ⟨i1, fun x hx => by have := i2 x hx; omega, fun x hx => ?_⟩
      have h3 := i3 x hx
      by_cases hlt : tkC e k < e.fr.length
      · have eg : e.fr.getD (tkC e k) er0 = e.fr[tkC e k] := by rw [List.getD_eq_getElem?_getD, List.getElem?_eq_getElem hlt]; rfl
        have hdk : e.fr.drop (tkC e k) = e.fr[tkC e k] :: e.fr.drop (tkC e k + 1) := List.drop_eq_getElem_cons hlt
        have hne : ¬ e.fr[tkC e k].p = e.n + (k : Int) := fun h' => h ⟨hlt, by rw [eg]; exact h'⟩
        have h4 := i3 _ (by rw [hdk]; exact List.mem_cons_self ..)
        have hp : erS (e.fr.drop (tkC e k)) := by
          have hp : ((e.fr.map Er.p).drop (tkC e k)).Pairwise (· < ·) := hs.sublist (List.drop_sublist ..)
          rwa [← List.map_drop] at hp
        rw [hdk] at hp hx
        rcases List.mem_cons.1 hx with rfl | hx
        · omega
        · have := (erS_cons.1 hp).1 x hx; omega
      · rw [List.drop_of_length_le (by omega)] at hx; cases hx
theorem tkC_hit {e : Ea} (hs : erS e.fr) (hn : ∀ x ∈ e.fr, e.n ≤ x.p) {k : Nat} {x : Er} (hx : x ∈ e.fr) (hp : x.p = e.n + (k : Int)) : tkC e k < e.fr.length ∧ e.fr.getD (tkC e k) er0 = x := by
  obtain ⟨i1, i2, i3⟩ := tkC_inv hs hn k
  have hx' : x ∈ e.fr.take (tkC e k) ++ e.fr.drop (tkC e k) := by rw [List.take_append_drop]; exact hx
  rcases List.mem_append.1 hx' with h | h
  · have := i2 x h; omega
  · have hlt : tkC e k < e.fr.length := by
      rcases Nat.lt_or_ge (tkC e k) e.fr.length with h' | h'
      · exact h'
      · rw [List.drop_of_length_le h'] at h; cases h
    refine ⟨hlt, ?_⟩
    have eg : e.fr.getD (tkC e k) er0 = e.fr[tkC e k] := by rw [List.getD_eq_getElem?_getD, List.getElem?_eq_getElem hlt]; rfl
    have hdk : e.fr.drop (tkC e k) = e.fr[tkC e k] :: e.fr.drop (tkC e k + 1) := List.drop_eq_getElem_cons hlt
    have h4 := i3 _ (by rw [hdk]; exact List.mem_cons_self ..)
    have hpp : erS (e.fr.drop (tkC e k)) := by
      have hp : ((e.fr.map Er.p).drop (tkC e k)).Pairwise (· < ·) := hs.sublist (List.drop_sublist ..)
      rwa [← List.map_drop] at hp
    rw [hdk] at hpp h
    rw [eg]
    rcases List.mem_cons.1 h with rfl | h
    · rfl
    · have := (erS_cons.1 hpp).1 x h; omega
def inB12 (a : Int) (d : List UInt8) (x : Er) : Prop := ∃ j : Nat, j < d.length ∧ x = ⟨a + (j : Int), d.getD j 0⟩
theorem tkL12_all {e : Ea} (hs : erS e.fr) (hn : ∀ x ∈ e.fr, e.n ≤ x.p) (a : Int) (d : List UInt8) : ∀ k, erS (tkL12 e a d k) ∧ ∀ x, x ∈ tkL12 e a d k ↔ (e.n ≤ x.p ∧ x.p < e.n + (k : Int)) ∧ (x ∈ e.fr ∨ (∀ y ∈ e.fr, y.p ≠ x.p) ∧ inB12 a d x)
  | 0 => ⟨by simp [tkL12, erS], fun x => ⟨fun h => by simp [tkL12] at h, fun h => by omega⟩⟩
  | k + 1 => by
    obtain ⟨i1, i2⟩ := tkL12_all hs hn a d k
    have hlt : ∀ y ∈ tkL12 e a d k, y.p < e.n + (k : Int) := fun y hy => ((i2 y).1 hy).1.2
    rw [tkL12]
    split
    · rename_i h
      obtain ⟨h1, h2⟩ := h
      have eg : e.fr.getD (tkC e k) er0 = e.fr[tkC e k] := by rw [List.getD_eq_getElem?_getD, List.getElem?_eq_getElem h1]; rfl
      have hm : e.fr.getD (tkC e k) er0 ∈ e.fr := by rw [eg]; exact List.getElem_mem h1
      generalize e.fr.getD (tkC e k) er0 = z at h2 hm
      refine ⟨erS_add i1 fun y hy => by have := hlt y hy; omega, fun x => ⟨fun hx => ?_, fun hx => ?_⟩⟩
      · rcases List.mem_append.1 hx with hx | hx
        · have := (i2 x).1 hx
          exact ⟨⟨this.1.1, by omega⟩, this.2⟩
        · obtain rfl := List.mem_singleton.1 hx
          exact ⟨⟨by omega, by omega⟩, .inl hm⟩
      · obtain ⟨hw, ho⟩ := hx
        by_cases hp : x.p = e.n + (k : Int)
        · refine List.mem_append_right _ (List.mem_singleton.2 ?_)
          rcases ho with ho | ⟨ho, _⟩
          · exact erS_one hs x ho z hm (by omega)
          · exact absurd (by omega) (ho z hm)
        · exact List.mem_append_left _ ((i2 x).2 ⟨⟨hw.1, by omega⟩, ho⟩)
    · rename_i h
      have hno : ∀ y ∈ e.fr, y.p ≠ e.n + (k : Int) := fun y hy hp => by
        have := tkC_hit hs hn hy hp
        exact h ⟨this.1, by rw [this.2]; exact hp⟩
      split
      · rename_i hb
        have hj : (((e.n + (k : Int) - a).toNat : Nat) : Int) = e.n + (k : Int) - a := by omega
        have hB : inB12 a d ⟨e.n + (k : Int), d.getD (e.n + (k : Int) - a).toNat 0⟩ := ⟨(e.n + (k : Int) - a).toNat, by omega, by rw [hj]; congr 1; omega⟩
        refine ⟨erS_add i1 fun y hy => hlt y hy, fun x => ⟨fun hx => ?_, fun hx => ?_⟩⟩
        · rcases List.mem_append.1 hx with hx | hx
          · have := (i2 x).1 hx
            exact ⟨⟨this.1.1, by omega⟩, this.2⟩
          · obtain rfl := List.mem_singleton.1 hx
            exact ⟨⟨by show e.n ≤ e.n + (k : Int); omega, by show e.n + (k : Int) < _; omega⟩, .inr ⟨hno, hB⟩⟩
        · obtain ⟨hw, ho⟩ := hx
          by_cases hp : x.p = e.n + (k : Int)
          · refine List.mem_append_right _ (List.mem_singleton.2 ?_)
            rcases ho with ho | ⟨_, j, hj1, rfl⟩
            · exact absurd hp (hno x ho)
            · have hp' : a + (j : Int) = e.n + (k : Int) := hp
              have ej : (e.n + (k : Int) - a).toNat = j := by omega
              rw [ej, hp']
          · exact List.mem_append_left _ ((i2 x).2 ⟨⟨hw.1, by omega⟩, ho⟩)
      · rename_i hb
        refine ⟨i1, fun x => ⟨fun hx => ?_, fun hx => ?_⟩⟩
        · have := (i2 x).1 hx
          exact ⟨⟨this.1.1, by omega⟩, this.2⟩
        · obtain ⟨hw, ho⟩ := hx
          by_cases hp : x.p = e.n + (k : Int)
          · rcases ho with ho | ⟨_, j, hj1, rfl⟩
            · exact absurd hp (hno x ho)
            · have hp' : a + (j : Int) = e.n + (k : Int) := hp
              exact absurd ⟨by omega, by omega⟩ hb
          · exact (i2 x).2 ⟨⟨hw.1, by omega⟩, ho⟩
theorem tk_hr {e : Ea} (he : eaB e = true) (a : Int) (d : List UInt8) : tkL12 e a d (eaF e).toNat = hrL e a d := by
  obtain ⟨_, _, h3, h4, h5⟩ := eaB_iff.1 he
  obtain ⟨i1, i2, i3, i4, i5⟩ := hrW_all he a d d.length
  have hn : ∀ x ∈ e.fr, e.n ≤ x.p := fun x hx => by have := h4 x hx; omega
  obtain ⟨j1, j2⟩ := tkL12_all h5 hn a d (eaF e).toNat
  have hF : (((eaF e).toNat : Nat) : Int) = eaF e := by unfold eaF; omega
  refine erS_ext j1 i1 fun x => (j2 x).trans ⟨fun ⟨hw, ho⟩ => ?_, fun hx => ?_⟩
  · rcases ho with ho | ⟨hno, j, hj, rfl⟩
    · exact i3 x ho
    · have hw1 : e.n ≤ a + (j : Int) := hw.1
      have hw2 : a + (j : Int) < e.n + (((eaF e).toNat : Nat) : Int) := hw.2
      obtain ⟨x', hx', ex⟩ := i4 j hj hw1 (by omega)
      rcases i5 x' hx' with h | ⟨j', hj', rfl⟩
      · exact absurd ex (hno x' h)
      · have ex' : a + (j' : Int) = a + (j : Int) := ex
        have : j' = j := by omega
        subst this; exact hx'
  · refine ⟨by have := i2 x hx; rw [hF]; exact this, ?_⟩
    by_cases hy : ∃ y ∈ e.fr, y.p = x.p
    · obtain ⟨y, hy, ey⟩ := hy
      left
      have : y = x := erS_one i1 y (i3 y hy) x hx ey
      exact this ▸ hy
    · rcases i5 x hx with h | h
      · exact .inl h
      · exact .inr ⟨fun y hy' ey => hy ⟨y, hy', ey⟩, h⟩
theorem rnK_step {l : List Er} {k : Nat} (h2 : (rnK l k).length < 2) (hne : ∀ r ∈ rnK l k, r.t ≠ (l.getD k er0).p) : rnK l (k + 1) = rnK l k ++ [⟨(l.getD k er0).p, (l.getD k er0).p + 1⟩] := by
  rw [rnK]
  split
  · rename_i r hr
    have hr' : r ∈ rnK l k := List.mem_of_getLast? hr
    rw [if_neg (hne r hr'), if_pos h2]
  · rw [if_pos h2]
theorem rnK_run {l : List Er} {c : Nat} (hc : c < l.length) (h2 : (rnK l c).length < 2) (hne : ∀ r ∈ rnK l c, r.t ≠ (l.getD c er0).p) : ∀ i : Nat, i + 1 ≤ runE (l.getD c er0).p (l.drop c) → rnK l (c + (i + 1)) = rnK l c ++ [⟨(l.getD c er0).p, (l.getD c er0).p + ((i + 1 : Nat) : Int)⟩]
  | 0, _ => rnK_step h2 hne
  | i + 1, hi => by
    have ih := rnK_run hc h2 hne i (by omega)
    have hle := runE_le (l.getD c er0).p (l.drop c)
    rw [List.length_drop] at hle
    have hlt : c + (i + 1) < l.length := by omega
    have h1 := runE_at (n := (l.getD c er0).p) (l := l.drop c) (j := i + 1) (by rw [List.length_drop]; omega) (by omega)
    rw [List.getElem_drop] at h1
    have eg : l.getD (c + (i + 1)) er0 = l[c + (i + 1)] := by rw [List.getD_eq_getElem?_getD, List.getElem?_eq_getElem hlt]; rfl
    show rnK l (c + (i + 1) + 1) = _
    rw [rnK, ih, eg, h1, List.getLast?_append, List.getLast?_singleton]
    show (if (l.getD c er0).p + ((i + 1 : Nat) : Int) = (l.getD c er0).p + ((i + 1 : Nat) : Int) then _ else _) = _
    rw [if_pos rfl, List.dropLast_concat, show (l.getD c er0).p + ((i + 1 + 1 : Nat) : Int) = (l.getD c er0).p + ((i + 1 : Nat) : Int) + 1 by omega]
theorem rnK_rest {l : List Er} {c : Nat} (h2 : ¬ (rnK l c).length < 2) (hne : ∀ r ∈ rnK l c, ∀ x ∈ l.drop c, r.t < x.p) : ∀ i : Nat, c + i ≤ l.length → rnK l (c + i) = rnK l c
  | 0, _ => rfl
  | i + 1, hi => by
    have ih := rnK_rest h2 hne i (by omega)
    have hlt : c + i < l.length := by omega
    have eg : l.getD (c + i) er0 = l[c + i] := by rw [List.getD_eq_getElem?_getD, List.getElem?_eq_getElem hlt]; rfl
    show rnK l (c + i + 1) = _
    rw [rnK, ih]
    split
    · rename_i r hr
      have hr' : r ∈ rnK l c := List.mem_of_getLast? hr
      have := hne r hr' l[c + i] (by rw [List.mem_drop_iff_getElem]; exact ⟨i, by omega, by simp⟩)
      rw [eg, if_neg (by omega), if_neg h2]
    · rw [if_neg h2]
def rnC (l : List Er) : Nat → Nat
  | 0 => 0
  | k + 1 => rnC l k + runE (l.getD (rnC l k) er0).p (l.drop (rnC l k))
def rnJ (l : List Er) (k : Nat) : Prop := rnC l k ≤ l.length ∧ (rnK l (rnC l k)).length = k ∧ ∀ r ∈ rnK l (rnC l k), ∀ x ∈ l.drop (rnC l k), r.t < x.p
theorem rnJ_zero (l : List Er) : rnJ l 0 := ⟨Nat.zero_le _, rfl, fun r hr => by simp [rnC, rnK] at hr⟩
theorem rnJ_next {l : List Er} (hs : erS l) {k : Nat} (h : rnJ l k) (hk : k < 2) (hc : rnC l k < l.length) :
    rnJ l (k + 1) ∧ rnC l k < rnC l (k + 1) ∧ rnK l (rnC l (k + 1)) = rnK l (rnC l k) ++ [⟨(l.getD (rnC l k) er0).p, (l.getD (rnC l k) er0).p + (runE (l.getD (rnC l k) er0).p (l.drop (rnC l k)) : Int)⟩] := by
  obtain ⟨h1, h2, h3⟩ := h
  have eg : l.getD (rnC l k) er0 = l[rnC l k] := by rw [List.getD_eq_getElem?_getD, List.getElem?_eq_getElem hc]; rfl
  have hdk : l.drop (rnC l k) = l[rnC l k] :: l.drop (rnC l k + 1) := List.drop_eq_getElem_cons hc
  obtain ⟨R, hR⟩ : ∃ R, R = runE (l.getD (rnC l k) er0).p (l.drop (rnC l k)) := ⟨_, rfl⟩
  have hpos : 1 ≤ R := by rw [hR, hdk, runE, if_pos (by rw [eg])]; omega
  have hle := runE_le (l.getD (rnC l k) er0).p (l.drop (rnC l k))
  rw [List.length_drop, ← hR] at hle
  have hp : erS (l.drop (rnC l k)) := by
    have hp : ((l.map Er.p).drop (rnC l k)).Pairwise (· < ·) := hs.sublist (List.drop_sublist ..)
    rwa [← List.map_drop] at hp
  have hC : rnC l (k + 1) = rnC l k + R := by rw [rnC, hR]
  have hrun := rnK_run hc (by omega) (fun r hr => by
    have := h3 r hr l[rnC l k] (by rw [hdk]; exact List.mem_cons_self ..)
    rw [eg]; omega) (R - 1) (by rw [← hR]; omega)
  rw [show R - 1 + 1 = R by omega] at hrun
  have hge : ∀ x ∈ l.drop (rnC l k), (l.getD (rnC l k) er0).p ≤ x.p := fun x hx => by
    rw [eg]
    rw [hdk] at hx hp
    rcases List.mem_cons.1 hx with rfl | hx
    · omega
    · have := (erS_cons.1 hp).1 x hx; omega
  have hrest := runE_rest (n := (l.getD (rnC l k) er0).p) hp hge
  rw [← hR, List.drop_drop] at hrest
  rw [← hR, hC, hrun]
  refine ⟨⟨by omega, by rw [hC, hrun, List.length_append, h2]; rfl, fun r hr x hx => ?_⟩, by omega, rfl⟩
  rw [hC] at hx hr
  rw [hrun] at hr
  rcases List.mem_append.1 hr with hr | hr
  · refine h3 r hr x ?_
    rw [← List.drop_drop] at hx
    exact List.mem_of_mem_drop hx
  · obtain rfl := List.mem_singleton.1 hr
    exact hrest x hx
theorem rnJ_end {l : List Er} {k : Nat} (h : rnJ l k) (he : rnC l k = l.length ∨ ¬ k < 2) : rnK l l.length = rnK l (rnC l k) := by
  obtain ⟨h1, h2, h3⟩ := h
  rcases he with he | he
  · rw [he]
  · have := rnK_rest (l := l) (c := rnC l k) (by omega) h3 (l.length - rnC l k) (by omega)
    rwa [show rnC l k + (l.length - rnC l k) = l.length by omega] at this
def elB (l : List Er) (f t : Int) : Bool := (l.all fun x => decide (f ≤ x.p) && decide (x.p < t)) && decide (erS l)
theorem elB_iff {l : List Er} {f t : Int} : elB l f t = true ↔ (∀ x ∈ l, f ≤ x.p ∧ x.p < t) ∧ erS l := by
  simp only [elB, Bool.and_eq_true, decide_eq_true_eq, List.all_eq_true]
def elF (l : List Er) (f : Int) : Nat → Int
  | 0 => f
  | k + 1 => (l.getD k er0).p + 1
def elJ (l : List Er) (f t : Int) (k : Nat) : Prop := (∀ x ∈ l.take k, f ≤ x.p ∧ x.p < t) ∧ erS (l.take k) ∧ (∀ x ∈ l.take k, x.p < elF l f k) ∧ f ≤ elF l f k
theorem elJ_next {l : List Er} {f t : Int} {k : Nat} (hk : k < l.length) (h : elJ l f t k) (h1 : elF l f k ≤ l[k].p) (h2 : l[k].p < t) : elJ l f t (k + 1) := by
  obtain ⟨j1, j2, j3, j4⟩ := h
  have eg : l.getD k er0 = l[k] := by rw [List.getD_eq_getElem?_getD, List.getElem?_eq_getElem hk]; rfl
  have htk : l.take (k + 1) = l.take k ++ [l[k]] := by rw [List.take_add_one, List.getElem?_eq_getElem hk]; rfl
  have hF : elF l f (k + 1) = l[k].p + 1 := by rw [elF, eg]
  refine ⟨fun x hx => ?_, ?_, fun x hx => ?_, by omega⟩
  · rw [htk] at hx
    rcases List.mem_append.1 hx with hx | hx
    · exact j1 x hx
    · obtain rfl := List.mem_singleton.1 hx
      exact ⟨by omega, h2⟩
  · rw [htk]
    exact erS_add j2 fun y hy => by have := j3 y hy; omega
  · rw [htk] at hx
    rw [hF]
    rcases List.mem_append.1 hx with hx | hx
    · have := j3 x hx; omega
    · obtain rfl := List.mem_singleton.1 hx
      omega
theorem elB_fault {l : List Er} {f t : Int} {k : Nat} (hk : k < l.length) (h : l[k].p < elF l f k ∨ t ≤ l[k].p) : elB l f t = false := by
  rw [Bool.eq_false_iff]
  intro hb
  obtain ⟨h1, h2⟩ := elB_iff.1 hb
  have hx := h1 _ (List.getElem_mem hk)
  rcases h with h | h
  · cases k with
    | zero => exact absurd h (by rw [elF]; omega)
    | succ k =>
      have eg : l.getD k er0 = l[k] := by rw [List.getD_eq_getElem?_getD, List.getElem?_eq_getElem (by omega)]; rfl
      rw [elF, eg] at h
      have := List.pairwise_iff_getElem.1 h2 k (k + 1) (by simp; omega) (by simpa using hk) (by omega)
      simp only [List.getElem_map] at this
      omega
  · omega
theorem elB_end {l : List Er} {f t : Int} (h : elJ l f t l.length) : elB l f t = true := by
  obtain ⟨j1, j2, _, _⟩ := h
  rw [List.take_length] at j1 j2
  exact elB_iff.2 ⟨j1, j2⟩
theorem eaB_el {n room : Int} {g : List UInt8} {fr : List Er} : eaB ⟨n, room, g, fr⟩ = (inZ n 0 1000000 && inZ room 1 32 && decide ((g.length : Int) ≤ room) && elB fr (n + 1) (n + room - (g.length : Int))) := by
  rw [Bool.eq_iff_iff, eaB_iff]
  simp only [Bool.and_eq_true, decide_eq_true_eq, elB_iff, inZ_iff, and_assoc]
  refine and_congr_right fun _ => and_congr_right fun _ => and_congr_right fun _ => and_congr_right fun _ => and_congr_right fun _ => and_congr_left fun _ => forall_congr' fun x => imp_congr_right fun _ => ?_
  show n < x.p ∧ x.p < n + (room - (g.length : Int)) ↔ _
  omega
end Go.Proofs.Ytkfjaeoehhakpaa
