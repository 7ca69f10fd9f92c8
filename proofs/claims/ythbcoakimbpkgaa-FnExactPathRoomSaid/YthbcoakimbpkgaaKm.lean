import Derived.Test.YthbcoakimbpkgaaHn
import Derived.Test.YthbcoakimbpkgaaXe
import Derived.Test.YthbcoakimbpkgaaKa
import Derived.Test.YthbcoakimbpkgaaQd
import Derived.Test.YthbcoakimbpkgaaVa
import Derived.Test.YthbcoakimbpkgaaNum
import Derived.Test.YthbcoakimbpkgaaVf
set_option linter.unusedVariables false
set_option linter.unusedSimpArgs false
namespace Go.Proofs.Ythbcoakimbpkgaa
open Go.RowKit
structure Dn where
  k : Int
  v : Int
  ps : List Pk
structure TrS where
  row : List (Nat × Pk)
  arr : List Pk
  nts : List Pk
def PartOf (p q : Pk) : Prop := q.t = p.t ∧ q.h ≤ p.h ∧ ∃ n : Nat, q.a = p.a + (n : Int) ∧ n + q.d.length ≤ p.d.length ∧ q.d = (p.d.drop n).take q.d.length
def Apart (x y : Pk) : Prop := x.z ≤ y.a ∨ y.z ≤ x.a
theorem PartOf.refl (p : Pk) : PartOf p p := ⟨rfl, Int.le_refl _, 0, by simp, by omega, by simp⟩
theorem PartOf.trans {p q r : Pk} (h1 : PartOf p q) (h2 : PartOf q r) : PartOf p r := by
  obtain ⟨a1, a2, n, a3, a4, a5⟩ := h1
  obtain ⟨b1, b2, m, b3, b4, b5⟩ := h2
  refine ⟨b1.trans a1, by omega, n + m, by omega, by omega, ?_⟩
  have e : r.d = (p.d.drop (n + m)).take (min r.d.length (q.d.length - m)) := by
    conv => lhs; rw [b5, a5, List.drop_take, List.drop_drop, List.take_take]
  rw [Nat.min_eq_left (by omega)] at e
  exact e
theorem PartOf.ends {p q : Pk} (h : PartOf p q) : p.a ≤ q.a ∧ q.z ≤ p.z := by
  obtain ⟨_, _, n, h1, h2, _⟩ := h
  simp only [Pk.z]
  omega
theorem Apart.symm {x y : Pk} (h : Apart x y) : Apart y x := Or.symm h
theorem Apart.part {x y y' : Pk} (h : Apart x y) (hp : PartOf y y') : Apart x y' := by
  have := hp.ends
  rcases h with h | h
  · exact .inl (by omega)
  · exact .inr (by omega)
def Kept (p : Pk) (L : List Pk) : Prop := (∀ q ∈ L, PartOf p q) ∧ L.Pairwise Apart
theorem Kept.sub {p : Pk} {L L' : List Pk} (h : Kept p L) (s : L'.Sublist L) : Kept p L' := ⟨fun q hq => h.1 q (s.subset hq), h.2.sublist s⟩
theorem Kept.cut {p x : Pk} {A B C : List Pk} (h : Kept p (A ++ x :: B)) (hC : ∀ y ∈ C, PartOf x y) (hA : C.Pairwise Apart) : Kept p (A ++ (B ++ C)) := by
  have hs : (A ++ B).Sublist (A ++ x :: B) := (List.Sublist.refl A).append (List.sublist_cons_self x B)
  rw [← List.append_assoc]
  refine ⟨fun q hq => ?_, ?_⟩
  · rcases List.mem_append.1 hq with hq | hq
    · exact h.1 q (hs.subset hq)
    · exact (h.1 x (by simp)).trans (hC q hq)
  · refine List.pairwise_append.2 ⟨h.2.sublist hs, hA, fun a ha y hy => ?_⟩
    have hx : Apart a x := by
      have h2 := List.pairwise_append.1 h.2
      rcases List.mem_append.1 ha with ha | ha
      · exact h2.2.2 a ha x (List.mem_cons_self ..)
      · exact ((List.pairwise_cons.1 h2.2.1).1 a ha).symm
    exact hx.part (hC y hy)
def nextV (net : List St) (to : Int) (i : Nat) : Option (Nat × Int) :=
  match lastFit (net.getD i st0).rs to with
  | none => none
  | some r => match seek net r.v with
    | none => none
    | some n => some (n, r.m)
def pm (net : List St) (to : Int) : Nat → Nat → Option Int
  | 0, _ => none
  | f + 1, i => if (net.getD i st0).a = to then some 48 else match nextV net to i with
    | none => none
    | some (n, m) => match pm net to f n with
      | none => none
      | some R => some (min m R)
def roomV (net : List St) (i : Nat) (to : Int) : Int := (pm net to (net.length + 1) i).getD 0
theorem net_routes {net : List St} (hn : netB net = true) {i : Nat} {x : Int} {r : RE} (h : lastFit (net.getD i st0).rs x = some r) : i < net.length ∧ (1 ≤ r.m ∧ r.m ≤ 48) ∧ (0 ≤ r.v ∧ r.v ≤ 65535) := by
  have hi : i < net.length := by
    apply Nat.lt_of_not_le
    intro hi
    rw [List.getD_eq_getElem?_getD, List.getElem?_eq_none hi] at h
    cases h
  rw [List.getD_eq_getElem?_getD, List.getElem?_eq_getElem hi] at h
  simp only [netB, Bool.and_eq_true] at hn
  have hs := List.all_eq_true.1 hn.1.2 net[i] (List.getElem_mem hi)
  rw [stB, Bool.and_eq_true] at hs
  have hr := rOk_mem ((rsB_iff.1 hs.2).2.1 r (lastFit_mem h).1)
  exact ⟨hi, hr.2.2.2.2.2.2, hr.2.2.2.2.2.1⟩
theorem next_some {net : List St} {to : Int} {i n : Nat} {m : Int} (h : nextV net to i = some (n, m)) : ∃ r, lastFit (net.getD i st0).rs to = some r ∧ seek net r.v = some n ∧ m = r.m := by
  rw [nextV] at h
  split at h
  · cases h
  · rename_i r hr
    split at h
    · cases h
    · rename_i n' hs
      cases h
      exact ⟨r, hr, hs, rfl⟩
theorem next_of {net : List St} {to : Int} {i n : Nat} {r : RE} (h : lastFit (net.getD i st0).rs to = some r) (hs : seek net r.v = some n) : nextV net to i = some (n, r.m) := by
  simp only [nextV, h, hs]
theorem pm_here {net : List St} {to : Int} {i : Nat} (f : Nat) (h : (net.getD i st0).a = to) : pm net to (f + 1) i = some 48 := by rw [pm, if_pos h]
theorem pm_on {net : List St} {to : Int} {i n : Nat} {m R : Int} {f : Nat} (h : (net.getD i st0).a ≠ to) (hx : nextV net to i = some (n, m)) (hp : pm net to f n = some R) : pm net to (f + 1) i = some (min m R) := by
  rw [pm, if_neg h]; simp only [hx, hp]
theorem pm_cases {net : List St} {to : Int} {i f : Nat} {R : Int} (h : pm net to f i = some R) : ∃ g, f = g + 1 ∧ (((net.getD i st0).a = to ∧ R = 48) ∨ ((net.getD i st0).a ≠ to ∧ ∃ n m R', nextV net to i = some (n, m) ∧ pm net to g n = some R' ∧ R = min m R')) := by
  cases f with
  | zero => cases h
  | succ g =>
    refine ⟨g, rfl, ?_⟩
    rw [pm] at h
    split at h
    · rename_i ht
      exact .inl ⟨ht, by cases h; rfl⟩
    · rename_i ht
      split at h
      · cases h
      · rename_i n m hx
        split at h
        · cases h
        · rename_i R' hp
          exact .inr ⟨ht, n, m, R', hx, hp, by cases h; rfl⟩
theorem pm_succ {net : List St} {to : Int} : ∀ {f i : Nat} {R : Int}, pm net to f i = some R → pm net to (f + 1) i = some R := by
  intro f
  induction f with
  | zero => intro i R h; cases h
  | succ f ih =>
    intro i R h
    obtain ⟨g, hg, ⟨ht, rfl⟩ | ⟨ht, n, m, R', hx, hp, rfl⟩⟩ := pm_cases h
    · exact pm_here _ ht
    · obtain rfl : f = g := by omega
      exact pm_on ht hx (ih hp)
theorem pm_mono {net : List St} {to : Int} {f i : Nat} {R : Int} (h : pm net to f i = some R) : ∀ j, pm net to (f + j) i = some R
  | 0 => h
  | j + 1 => pm_succ (pm_mono h j)
theorem pm_bd {net : List St} (hn : netB net = true) {to : Int} : ∀ {f i : Nat} {R : Int}, pm net to f i = some R → 1 ≤ R ∧ R ≤ 48 := by
  intro f
  induction f with
  | zero => intro i R h; cases h
  | succ f ih =>
    intro i R h
    obtain ⟨g, hg, ⟨ht, rfl⟩ | ⟨ht, n, m, R', hx, hp, rfl⟩⟩ := pm_cases h
    · omega
    · obtain rfl : f = g := by omega
      obtain ⟨r, hl, _, rfl⟩ := next_some hx
      have h1 := (net_routes hn hl).2.1
      have h2 := ih hp
      omega
theorem room_le {net : List St} (hn : netB net = true) (i : Nat) (to : Int) : (0 ≤ roomV net i to ∧ roomV net i to ≤ 48) ∧ (roomV net i to ≠ 0 → ((net.getD i st0).a = to ∧ roomV net i to = 48) ∨ ∃ r, lastFit (net.getD i st0).rs to = some r ∧ roomV net i to ≤ r.m) := by
  rw [roomV]
  obtain h | ⟨R, h⟩ : pm net to (net.length + 1) i = none ∨ ∃ R, pm net to (net.length + 1) i = some R := by cases pm net to (net.length + 1) i <;> simp
  · rw [h]; exact ⟨by decide, fun h => absurd rfl h⟩
  · rw [h]
    have hb := pm_bd hn h
    refine ⟨⟨by simp only [Option.getD_some]; omega, hb.2⟩, fun _ => ?_⟩
    obtain ⟨g, hg, ⟨ht, rfl⟩ | ⟨ht, n, m, R', hx, hp, rfl⟩⟩ := pm_cases h
    · exact .inl ⟨ht, rfl⟩
    · obtain ⟨r, hl, _, rfl⟩ := next_some hx
      exact .inr ⟨r, hl, by simp only [Option.getD_some]; omega⟩
theorem few : ∀ (n : Nat) (l : List Nat), l.Nodup → (∀ x ∈ l, x < n) → l.length ≤ n
  | 0, l, _, h => by
    cases l with
    | nil => exact Nat.le_refl _
    | cons x t => exact absurd (h x (List.mem_cons_self ..)) (Nat.not_lt_zero _)
  | n + 1, l, hd, h => by
    have h1 := few n (l.erase n) (hd.erase n) (fun x hx => by
      have h2 := h x (List.mem_of_mem_erase hx)
      have h3 : x ≠ n := fun e => by
        rw [e] at hx
        exact hd.not_mem_erase hx
      omega)
    rw [List.length_erase] at h1
    split at h1 <;> omega
theorem pm_line {net : List St} {to : Int} : ∀ {f i : Nat}, pm net to (f + 1) i ≠ none → pm net to f i = none → i < net.length → ∃ l : List Nat, l.length = f + 1 ∧ l.Nodup ∧ ∀ s ∈ l, s < net.length ∧ pm net to (f + 1) s ≠ none := by
  intro f
  induction f with
  | zero => exact fun {i} h _ hi => ⟨[i], rfl, by simp, fun s hs => by rw [List.mem_singleton.1 hs]; exact ⟨hi, h⟩⟩
  | succ f ih =>
    intro i h h0 hi
    obtain ⟨R, hR⟩ : ∃ R, pm net to (f + 1 + 1) i = some R := by cases hp : pm net to (f + 1 + 1) i with | none => exact absurd hp h | some R => exact ⟨R, rfl⟩
    obtain ⟨g, hg, ⟨ht, rfl⟩ | ⟨ht, n, m, R', hx, hp, rfl⟩⟩ := pm_cases hR
    · rw [pm_here f ht] at h0; cases h0
    · obtain rfl : g = f + 1 := by omega
      obtain ⟨r, hl, hs, rfl⟩ := next_some hx
      have hn : pm net to f n = none := by
        cases hq : pm net to f n with
        | none => rfl
        | some R'' => rw [pm_on ht hx hq] at h0; cases h0
      obtain ⟨l, h1, h2, h3⟩ := ih (by rw [hp]; simp) hn (seek_lt hs).1
      refine ⟨i :: l, by rw [List.length_cons, h1], List.nodup_cons.2 ⟨fun hm => (h3 i hm).2 h0, h2⟩, fun s hm => ?_⟩
      rcases List.mem_cons.1 hm with rfl | hm
      · exact ⟨hi, h⟩
      · refine ⟨(h3 s hm).1, ?_⟩
        obtain ⟨R3, h4⟩ : ∃ R, pm net to (f + 1) s = some R := by cases hq : pm net to (f + 1) s with | none => exact absurd hq (h3 s hm).2 | some R => exact ⟨R, rfl⟩
        rw [pm_succ h4]; simp
theorem pm_first {net : List St} {to : Int} {i : Nat} : ∀ f, pm net to f i ≠ none → ∃ g, g < f ∧ pm net to (g + 1) i ≠ none ∧ pm net to g i = none
  | 0, h => absurd rfl h
  | f + 1, h => by
    by_cases hf : pm net to f i = none
    · exact ⟨f, Nat.lt_succ_self f, h, hf⟩
    · obtain ⟨g, h1, h2⟩ := pm_first f hf
      exact ⟨g, by omega, h2⟩
inductive Rs where
  | arr
  | note (k v : Int)
  | gone
def Idx (z : Int) (b : Bool) (C : List Pk) : Prop := ∀ k (hk : k < C.length), C[k].a = z + ((joinD (C.take k)).length : Int) ∧ C[k].m = (b || decide (k + 1 < C.length))
theorem joinD_app (A B : List Pk) : joinD (A ++ B) = joinD A ++ joinD B := by simp [joinD]
theorem Idx.app {z : Int} {b : Bool} {A B : List Pk} (hA : Idx z true A) (hB : Idx (z + ((joinD A).length : Int)) b B) (h0 : 0 < B.length) : Idx z b (A ++ B) := by
  intro k hk
  by_cases h : k < A.length
  · have h1 := hA k h
    rw [List.getElem_append_left h, List.take_append_of_le_length (by omega)]
    refine ⟨h1.1, ?_⟩
    rw [h1.2, List.length_append, decide_eq_true (p := k + 1 < A.length + B.length) (by omega)]
    simp
  · rw [List.length_append] at hk
    have h1 := hB (k - A.length) (by omega)
    rw [List.getElem_append_right (by omega), List.take_append, List.take_of_length_le (by omega), joinD_app, List.length_append]
    refine ⟨by rw [h1.1]; omega, ?_⟩
    rw [h1.2, List.length_append]
    congr 1
    rw [decide_eq_decide]
    omega
theorem Idx.tail {z : Int} {b : Bool} {x : Pk} {t : List Pk} (h : Idx z b (x :: t)) : Idx (z + (x.d.length : Int)) b t := by
  intro k hk
  have h1 := h (k + 1) (by rw [List.length_cons]; omega)
  simp only [List.getElem_cons_succ, List.take_succ_cons, List.length_cons] at h1
  refine ⟨?_, ?_⟩
  · rw [h1.1]
    have : (joinD (x :: t.take k)).length = x.d.length + (joinD (t.take k)).length := by simp [joinD]
    omega
  · rw [h1.2]
    congr 1
    rw [decide_eq_decide]
    omega
theorem net_st {net : List St} (hn : netB net = true) {i : Nat} (hi : i < net.length) : stB (net.getD i st0) = true := by
  rw [List.getD_eq_getElem?_getD, List.getElem?_eq_getElem hi]
  simp only [netB, Bool.and_eq_true] at hn
  exact List.all_eq_true.1 hn.1.2 net[i] (List.getElem_mem hi)
end Go.Proofs.Ythbcoakimbpkgaa
