import Derived.Test.YtegffkmakkccaaaYm
namespace Go.Proofs.Ytegffkmakkccaaa
open Go.RowKit
set_option linter.unusedSimpArgs false
set_option linter.unusedVariables false
structure St where
  a : Int
  rs : List RE
def st0 : St := ⟨0, []⟩
def stRow (s : St) : List D := [.v (.int .i64 s.a), .l 4 (rtRows s.rs)]
def stRows (l : List St) : List (List D) := l.map stRow
def stOf (r : List D) : St := ⟨(r.getD 0 (.v undef)).toI, rtsOf (r.getD 1 (.v undef)).toL⟩
def stsOf (rows : List (List D)) : List St := rows.map stOf
theorem stsOf_rows (l : List St) : stsOf (stRows l) = l := by
  unfold stsOf stRows
  rw [List.map_map]
  have : stOf ∘ stRow = id := by
    funext x
    show (⟨x.a, rtsOf (rtRows x.rs)⟩ : St) = x
    rw [rtsOf_rows]
  rw [this, List.map_id]
theorem stRows_len (l : List St) : (stRows l).length = l.length := by simp [stRows]
theorem stRows_w (l : List St) : ∀ r ∈ stRows l, r.length = 2 := fun r hr => by
  obtain ⟨e, _, rfl⟩ := List.mem_map.1 hr
  rfl
theorem stRows_get (l : List St) (k : Nat) (h : k < l.length) : (stRows l).getD k [] = [.v (.int .i64 l[k].a), .l 4 (rtRows l[k].rs)] := by
  unfold stRows
  rw [List.getD_eq_getElem?_getD, List.getElem?_map, List.getElem?_eq_getElem h]; rfl
theorem stRows_take (l : List St) (k : Nat) : (stRows l).take k = stRows (l.take k) := by simp [stRows, List.map_take]
theorem stRows_app (a b : List St) : stRows a ++ stRows b = stRows (a ++ b) := by simp [stRows]
theorem st_get {l : List St} {k : Nat} (h : k < l.length) : l.getD k st0 = l[k] := by simp [List.getD, h]
def stB (s : St) : Bool := inZ s.a 0 65535 && rsB s.rs
def seek (net : List St) (x : Int) : Option Nat := net.findIdx? fun s => decide (s.a = x)
def seekI (net : List St) (x : Int) : Int := match seek net x with | some n => (n : Int) | none => -1
def netB (net : List St) : Bool := decide (net.length ≤ 5) && net.all stB && decide ((net.map St.a).Nodup)
theorem seek_lt {net : List St} {x : Int} {n : Nat} (h : seek net x = some n) : n < net.length ∧ (net.getD n st0).a = x := by
  obtain ⟨h1, h2, _⟩ := List.findIdx?_eq_some_iff_getElem.1 h
  refine ⟨h1, ?_⟩
  rw [List.getD_eq_getElem?_getD, List.getElem?_eq_getElem h1]
  exact of_decide_eq_true h2
theorem seek_at {net : List St} {x : Int} {k : Nat} (hk : k < net.length) (h : net[k].a = x) (hn : ∀ j (hj : j < net.length), j < k → net[j].a ≠ x) : seekI net x = (k : Int) := by
  have : seek net x = some k := List.findIdx?_eq_some_iff_getElem.2 ⟨hk, decide_eq_true h, fun j hj => by
    have := hn j (by omega) hj
    simpa using this⟩
  rw [seekI, this]
theorem seek_no {net : List St} {x : Int} (hn : ∀ j (hj : j < net.length), net[j].a ≠ x) : seekI net x = -1 := by
  have : seek net x = none := List.findIdx?_eq_none_iff.2 fun y hy => by
    obtain ⟨j, hj, rfl⟩ := List.getElem_of_mem hy
    have := hn j hj
    simpa using this
  rw [seekI, this]
theorem net_at {net : List St} {k : Nat} (hk : k < net.length) (h : stB net[k] = false) : netB net = false := by
  have : net.all stB = false := by
    rw [Bool.eq_false_iff]
    intro hn
    rw [List.all_eq_true.1 hn _ (List.getElem_mem hk)] at h
    cases h
  rw [netB, this, Bool.and_false, Bool.false_and]
theorem net_two {net : List St} {j k : Nat} (hj : j < net.length) (hk : k < net.length) (hjk : j < k) (h : net[j].a = net[k].a) : netB net = false := by
  have : ¬ (net.map St.a).Nodup := fun hn => by
    have h1 := List.pairwise_iff_getElem.1 hn j k (by simpa using hj) (by simpa using hk) hjk
    simp only [List.getElem_map] at h1
    exact h1 h
  rw [netB, decide_eq_false this, Bool.and_false]
theorem net_end {net : List St} (h1 : ∀ i (hi : i < net.length), stB net[i] = true) (h2 : ∀ i (hi : i < net.length), ∀ j (hj : j < net.length), j < i → net[j].a ≠ net[i].a) : netB net = decide (net.length ≤ 5) := by
  have a1 : net.all stB = true := List.all_eq_true.2 fun x hx => by
    obtain ⟨i, hi, rfl⟩ := List.getElem_of_mem hx
    exact h1 i hi
  have a2 : (net.map St.a).Nodup := by
    refine List.pairwise_iff_getElem.2 fun i j hi hj hij => ?_
    simp only [List.getElem_map]
    exact h2 j (by simpa using hj) i (by simpa using hi) hij
  rw [netB, a1, decide_eq_true a2, Bool.and_true, Bool.and_true]
end Go.Proofs.Ytegffkmakkccaaa
