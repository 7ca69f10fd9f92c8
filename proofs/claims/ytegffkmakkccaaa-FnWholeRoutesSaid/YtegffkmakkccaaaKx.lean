import Derived.Test.YtegffkmakkccaaaKg
import Derived.Test.YtegffkmakkccaaaYj
set_option linter.unusedVariables false
set_option linter.unusedSimpArgs false
namespace Go.Proofs.Ytegffkmakkccaaa
open Go.RowKit
def lessS (s : St) : St := ⟨s.a, lessV s.rs⟩
def lessN (net : List St) : List St := net.map lessS
theorem lessS_0 : lessS st0 = st0 := rfl
theorem way_same {s : St} {p : Pk} {e e' : RE} (hv : e.v = e'.v) (hm : e.m = e'.m) : wayD s p e = wayD s p e' := by
  rw [wayD, wayD, onD, onD, hv, hm]
theorem fwS_less {s : St} (h : rsB s.rs = true) (p : Pk) : fwV (lessS s) p = fwV s p := by
  obtain ⟨h1, _, _, h4⟩ := less_rs h
  have hB : stB (lessS s) = stB s := by
    show (inZ s.a 0 65535 && rsB (lessV s.rs)) = (inZ s.a 0 65535 && rsB s.rs)
    rw [h1, h]
  have hs : ∀ k n, sayD (lessS s) p k n = sayD s p k n := fun k n => rfl
  have hw : ∀ r, wayD (lessS s) p r = wayD s p r := fun r => rfl
  have ea : (lessS s).a = s.a := rfl
  have er : (lessS s).rs = lessV s.rs := rfl
  have hv := h4 p.t
  rw [fwV, fwV, hB, fwD, fwD, ea, er, hs, hs]
  cases ha : lastFit (lessV s.rs) p.t with
  | none =>
    rw [ha] at hv
    cases hb : lastFit s.rs p.t with
    | none => rfl
    | some e => rw [hb] at hv; cases hv
  | some e =>
    rw [ha] at hv
    cases hb : lastFit s.rs p.t with
    | none => rw [hb] at hv; cases hv
    | some e' =>
      rw [hb] at hv
      simp only [VR, Option.some.injEq, Prod.mk.injEq] at hv
      dsimp only
      rw [hw, way_same hv.1 hv.2]
theorem seek_less (net : List St) (x : Int) : seek (lessN net) x = seek net x := by
  rw [seek, seek, lessN, List.findIdx?_map]; rfl
theorem get_less (net : List St) (i : Nat) : (lessN net).getD i st0 = lessS (net.getD i st0) := by
  rw [lessN, List.getD_eq_getElem?_getD, List.getD_eq_getElem?_getD, List.getElem?_map]
  cases net[i]? with
  | none => exact lessS_0.symm
  | some s => rfl
theorem get_rs {net : List St} (h : ∀ s ∈ net, rsB s.rs = true) (i : Nat) : rsB (net.getD i st0).rs = true := by
  by_cases hi : i < net.length
  · have e : net.getD i st0 = net[i] := by simp [List.getD, hi]
    rw [e]; exact h _ (List.getElem_mem hi)
  · rw [List.getD_eq_getElem?_getD, List.getElem?_eq_none (by omega)]; rfl
theorem tvOne_less (net : List St) (S : TrS) (d : Dn) : tvOne (lessN net) S d = tvOne net S d := by
  rw [tvOne, tvOne, seek_less]
theorem tvK_less {net : List St} (h : ∀ s ∈ net, rsB s.rs = true) (S : TrS) : ∀ k, tvK (lessN net) S k = tvK net S k
  | 0 => rfl
  | k + 1 => by
    rw [tvK, tvK, tvK_less h S k]
    cases hr : (tvK net S k).row[k]? with
    | none => rfl
    | some x =>
      obtain ⟨i, p⟩ := x
      dsimp only
      rw [get_less, fwS_less (get_rs h i), tvOne_less]
theorem tvT_less {net : List St} (h : ∀ s ∈ net, rsB s.rs = true) (S : TrS) : tvT (lessN net) S = tvT net S := by
  rw [tvT, tvT, tvK_less h]
theorem net_less {net : List St} (h : ∀ s ∈ net, rsB s.rs = true) : netB (lessN net) = netB net := by
  have e1 : (lessN net).map St.a = net.map St.a := by rw [lessN, List.map_map]; rfl
  have e2 : (lessN net).all stB = net.all stB := by
    rw [lessN, List.all_map, Bool.eq_iff_iff, List.all_eq_true, List.all_eq_true]
    refine forall_congr' fun s => forall_congr' fun hs => ?_
    have : stB (lessS s) = stB s := by
      show (inZ s.a 0 65535 && rsB (lessV s.rs)) = (inZ s.a 0 65535 && rsB s.rs)
      rw [(less_rs (h s hs)).1, h s hs]
    show stB (lessS s) = true ↔ _
    rw [this]
  rw [netB, netB, e1, e2, lessN, List.length_map]
theorem len_less (net : List St) : (lessN net).length = net.length := by rw [lessN, List.length_map]
theorem in_less {net : List St} (h : ∀ s ∈ net, rsB s.rs = true) (n : Int) : inNet (lessN net) n = inNet net n := by
  unfold inNet
  rw [net_less h, len_less]
theorem trav_less {net : List St} (h : ∀ s ∈ net, rsB s.rs = true) (n : Int) (p : Pk) : trV (lessN net) n p = trV net n p ∧ trN (lessN net) n p = trN net n p := by
  have e : trB (lessN net) n p = trB net n p := by rw [trB, trB, in_less h]
  rw [trV, trV, trN, trN, e, tvK_less h, tvT_less h]
  exact ⟨rfl, rfl⟩
end Go.Proofs.Ytegffkmakkccaaa
