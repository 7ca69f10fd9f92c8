import Derived.Test.YtloffpgdclbkhaaTt
import Derived.Test.YtloffpgdclbkhaaR6
namespace Go.Proofs.Ytloffpgdclbkhaa
open Go.RowKit
set_option linter.unusedSimpArgs false

/-! a station is drawn -/
inductive NF where
  | nil
  | oo
  | os
  | so
deriving DecidableEq
structure NS where
  f : NF
  km : List KE
  hm : List HE
  p : Int
def NS.ks (v : NS) : List KE := if v.f = .so then v.km.drop 1 else v.km
def NS.hs (v : NS) : List HE := if v.f = .os then v.hm.drop 1 else v.hm
def sendS (ks : List KE) (hs : List HE) (a : Int) (d : List UInt8) (now p : Int) : NS :=
  if sOk ks hs a d.length now = true then
    if 0 ≤ nfV ks hs a now then ⟨.oo, ks, hs, p⟩ else if hs.length < 4 then ⟨.oo, ks, hs ++ [⟨a, d⟩], p⟩ else ⟨.os, ks, hs ++ [⟨a, d⟩], p⟩
  else ⟨.nil, [], [], p⟩
def hearS (ks : List KE) (hs : List HE) (own : Int) (q : QueryV) (now p : Int) : NS :=
  if rOk ks hs q.k q.l q.a q.w now = true then
    if wantB ks hs own q.a q.w = true then (if (kOut ks q.a).length < 4 then ⟨.oo, kOut ks q.a ++ [⟨q.a, q.l, now + 20⟩], hOut hs q.a, p⟩ else ⟨.so, kOut ks q.a ++ [⟨q.a, q.l, now + 20⟩], hOut hs q.a, p⟩)
    else ⟨.oo, ks, hs, p⟩
  else ⟨.nil, [], [], p⟩
def byteP (xs : List UInt8) (p : Int) : Int := p + 1 + 1 + 1 + 2 * ((pickV xs (p + 1 + 1) 3).toNat : Int)
def nStep (xs : List UInt8) (v : NS) : NS :=
  if pickV xs v.p 2 = 0 then sendS v.ks v.hs (pickV xs (v.p + 1) 6) (bytesV xs (v.p + 1 + 1 + 1) (pickV xs (v.p + 1 + 1) 3).toNat) (pickV xs (byteP xs v.p) 30) (byteP xs v.p + 1)
  else hearS v.ks v.hs (pickV xs (v.p + 1) 6) (queryV xs (v.p + 1 + 1) 0) (pickV xs (queryV xs (v.p + 1 + 1) 0).p 30) ((queryV xs (v.p + 1 + 1) 0).p + 1)
def nRun (xs : List UInt8) (p : Int) : Nat → NS
  | 0 => ⟨.nil, [], [], p + 1⟩
  | k + 1 => nStep xs (nRun xs p k)
structure NInv (v : NS) : Prop where
  k : v.km.length ≤ 5
  h : v.hm.length ≤ 5
  so : v.f = .so → v.km.length = 5
  os : v.f = .os → v.hm.length = 5
  no : v.f = .nil → v.km = [] ∧ v.hm = []
  d : ∀ e ∈ v.hm, e.d.length ≤ 64
theorem sOk_b {ks : List KE} {hs : List HE} {a : Int} {n : Nat} {now : Int} (h : sOk ks hs a n now = true) : ks.length ≤ 4 ∧ hs.length ≤ 4 ∧ (∀ e ∈ hs, e.d.length ≤ 64) ∧ n ≤ 64 := by
  simp only [sOk, Bool.and_eq_true, decide_eq_true_eq] at h
  obtain ⟨k1, k2, k3, k4⟩ := nOkB_k h.1
  refine ⟨k1, k3, fun e he => ?_, h.2.2.1⟩
  obtain ⟨i, hi, rfl⟩ := List.getElem_of_mem he
  have := k4 i hi
  simp only [hOk, decide_eq_true_eq] at this
  exact this.2
theorem rOk_b {ks : List KE} {hs : List HE} {qk ql qa qw now : Int} (h : rOk ks hs qk ql qa qw now = true) : ks.length ≤ 4 ∧ hs.length ≤ 4 ∧ ∀ e ∈ hs, e.d.length ≤ 64 := by
  simp only [rOk, Bool.and_eq_true] at h
  obtain ⟨k1, k2, k3, k4⟩ := nOkB_k h.1
  refine ⟨k1, k3, fun e he => ?_⟩
  obtain ⟨i, hi, rfl⟩ := List.getElem_of_mem he
  have := k4 i hi
  simp only [hOk, decide_eq_true_eq] at this
  exact this.2
theorem sendS_inv (ks : List KE) (hs : List HE) (a : Int) (d : List UInt8) (now p : Int) : NInv (sendS ks hs a d now p) ∧ (sendS ks hs a d now p).p = p := by
  unfold sendS
  split
  · rename_i h
    obtain ⟨h1, h2, h3, h4⟩ := sOk_b h
    have hd : ∀ e ∈ hs ++ [⟨a, d⟩], e.d.length ≤ 64 := fun e he => by
      rcases List.mem_append.1 he with he | he
      · exact h3 e he
      · simp at he; subst he; exact h4
    have hl : (hs ++ [(⟨a, d⟩ : HE)]).length = hs.length + 1 := by simp
    split
    · exact ⟨⟨by dsimp only; omega, by dsimp only; omega, nofun, nofun, nofun, h3⟩, rfl⟩
    · split
      · exact ⟨⟨by dsimp only; omega, by dsimp only; omega, nofun, nofun, nofun, hd⟩, rfl⟩
      · exact ⟨⟨by dsimp only; omega, by dsimp only; omega, nofun, fun _ => by dsimp only; omega, nofun, hd⟩, rfl⟩
  · exact ⟨⟨by simp, by simp, nofun, nofun, fun _ => ⟨rfl, rfl⟩, by simp⟩, rfl⟩
theorem hearS_inv (ks : List KE) (hs : List HE) (own : Int) (q : QueryV) (now p : Int) : NInv (hearS ks hs own q now p) ∧ (hearS ks hs own q now p).p = p := by
  unfold hearS
  split
  · rename_i h
    obtain ⟨h1, h2, h3⟩ := rOk_b h
    have hd : ∀ e ∈ hOut hs q.a, e.d.length ≤ 64 := fun e he => h3 e (List.mem_filter.1 he).1
    have hl : (kOut ks q.a ++ [(⟨q.a, q.l, now + 20⟩ : KE)]).length = (kOut ks q.a).length + 1 := by simp
    have hk : (kOut ks q.a).length ≤ ks.length := List.length_filter_le _ _
    have hh : (hOut hs q.a).length ≤ hs.length := List.length_filter_le _ _
    split
    · split
      · exact ⟨⟨by dsimp only; omega, by dsimp only; omega, nofun, nofun, nofun, hd⟩, rfl⟩
      · exact ⟨⟨by dsimp only; omega, by dsimp only; omega, fun _ => by dsimp only; omega, nofun, nofun, hd⟩, rfl⟩
    · exact ⟨⟨by dsimp only; omega, by dsimp only; omega, nofun, nofun, nofun, h3⟩, rfl⟩
  · exact ⟨⟨by simp, by simp, nofun, nofun, fun _ => ⟨rfl, rfl⟩, by simp⟩, rfl⟩
theorem byteP_b (xs : List UInt8) (p : Int) (h : p < 100000000000) : p + 3 ≤ byteP xs p ∧ byteP xs p ≤ p + 7 := by
  have h1 := pickV_nonneg xs (p + 1 + 1) 3 (by omega)
  have h2 := pickV_lt xs (p + 1 + 1) 3 (by omega)
  unfold byteP
  omega
theorem nStep_inv (xs : List UInt8) (v : NS) (h : v.p < 100000000000) : NInv (nStep xs v) ∧ v.p ≤ (nStep xs v).p ∧ (nStep xs v).p ≤ v.p + 20 := by
  unfold nStep
  have hb := byteP_b xs v.p h
  have hq := queryV_p xs (v.p + 1 + 1) 0
  split
  · have := sendS_inv v.ks v.hs (pickV xs (v.p + 1) 6) (bytesV xs (v.p + 1 + 1 + 1) (pickV xs (v.p + 1 + 1) 3).toNat) (pickV xs (byteP xs v.p) 30) (byteP xs v.p + 1)
    exact ⟨this.1, by rw [this.2]; omega, by rw [this.2]; omega⟩
  · have := hearS_inv v.ks v.hs (pickV xs (v.p + 1) 6) (queryV xs (v.p + 1 + 1) 0) (pickV xs (queryV xs (v.p + 1 + 1) 0).p 30) ((queryV xs (v.p + 1 + 1) 0).p + 1)
    exact ⟨this.1, by rw [this.2]; omega, by rw [this.2]; omega⟩
theorem nRun_inv (xs : List UInt8) (p : Int) (hp : p < 1000000000) : ∀ k : Nat, k ≤ 1000000 → NInv (nRun xs p k) ∧ p ≤ (nRun xs p k).p ∧ (nRun xs p k).p ≤ p + 1 + 20 * (k : Int)
  | 0, _ => ⟨⟨by simp [nRun], by simp [nRun], nofun, nofun, fun _ => ⟨rfl, rfl⟩, by simp [nRun]⟩, by dsimp only [nRun]; omega, by dsimp only [nRun]; omega⟩
  | k + 1, hk => by
    obtain ⟨h1, h2, h3⟩ := nRun_inv xs p hp k (by omega)
    obtain ⟨k1, k2, k3⟩ := nStep_inv xs (nRun xs p k) (by omega)
    exact ⟨k1, by rw [nRun]; omega, by rw [nRun]; omega⟩
structure NearV where
  s1 : Nat
  s2 : Nat
  ks : List KE
  hs : List HE
  p : Int
def finS (xs : List UInt8) (v : NS) (n : Int) : NearV :=
  if (decide (0 < n) && pickV xs v.p n == n - 1) = true then
    if pickV xs (v.p + oneIf n) 3 = 0 then ⟨3, if v.f = .nil then 1 else 2, v.ks ++ [⟨pickV xs (v.p + oneIf n + 1) 6, pickV xs (v.p + oneIf n + 1 + 1) 300, pickV xs (v.p + oneIf n + 1 + 1 + 1) 9⟩], v.hs, v.p + oneIf n + 1 + 1 + 1 + 1⟩
    else if pickV xs (v.p + oneIf n) 3 = 1 then ⟨if v.f = .nil then 1 else 3, 2, v.ks, v.hs ++ [⟨pickV xs (v.p + oneIf n + 1) 6, []⟩, ⟨65536, []⟩], v.p + oneIf n + 1 + 1⟩
    else ⟨3, if v.f = .nil then 1 else 2, v.ks ++ v.ks, v.hs, v.p + oneIf n + 1⟩
  else ⟨if v.f = .nil then 1 else 3, if v.f = .nil then 1 else 2, v.ks, v.hs, v.p + oneIf n⟩
def nearV (xs : List UInt8) (p n : Int) : NearV := finS xs (nRun xs p (pickV xs p 10).toNat) n
theorem ks_le (v : NS) : v.ks.length ≤ v.km.length := by unfold NS.ks; split <;> simp
theorem hs_le (v : NS) : v.hs.length ≤ v.hm.length := by unfold NS.hs; split <;> simp
theorem hs_mem (v : NS) {e : HE} (h : e ∈ v.hs) : e ∈ v.hm := by
  unfold NS.hs at h
  split at h
  · exact List.mem_of_mem_drop h
  · exact h
theorem finS_len (xs : List UInt8) (v : NS) (n : Int) (h : NInv v) : (finS xs v n).ks.length ≤ 10 ∧ (finS xs v n).hs.length ≤ 7 ∧ (∀ e ∈ (finS xs v n).hs, e.d.length ≤ 64) ∧ v.p ≤ (finS xs v n).p ∧ (finS xs v n).p ≤ v.p + 5 := by
  have h1 := ks_le v
  have h2 := hs_le v
  have h3 := h.k
  have h4 := h.h
  have h5 := oneIf_le n
  have h6 : ∀ e ∈ v.hs, e.d.length ≤ 64 := fun e he => h.d e (hs_mem v he)
  unfold finS
  split
  · split
    · refine ⟨by rw [List.length_append]; simp only [List.length_cons, List.length_nil]; omega, by dsimp only; omega, h6, by dsimp only; omega, by dsimp only; omega⟩
    · split
      · refine ⟨by dsimp only; omega, by rw [List.length_append]; simp only [List.length_cons, List.length_nil]; omega, fun e he => ?_, by dsimp only; omega, by dsimp only; omega⟩
        rcases List.mem_append.1 he with he | he
        · exact h6 e he
        · simp at he
          rcases he with rfl | rfl <;> simp
      · refine ⟨by rw [List.length_append]; omega, by dsimp only; omega, h6, by dsimp only; omega, by dsimp only; omega⟩
  · refine ⟨by dsimp only; omega, by dsimp only; omega, h6, by dsimp only; omega, by dsimp only; omega⟩
theorem nearV_len (xs : List UInt8) (p n : Int) (hp : 0 ≤ p ∧ p < 1000000000) : (nearV xs p n).ks.length ≤ 10 ∧ (nearV xs p n).hs.length ≤ 7 ∧ (∀ e ∈ (nearV xs p n).hs, e.d.length ≤ 64) ∧ p ≤ (nearV xs p n).p ∧ (nearV xs p n).p ≤ p + 300 := by
  have a1 := pickV_nonneg xs p 10 (by omega)
  have a2 := pickV_lt xs p 10 (by omega)
  obtain ⟨k1, k2, k3⟩ := nRun_inv xs p hp.2 (pickV xs p 10).toNat (by omega)
  obtain ⟨q1, q2, q3, q4, q5⟩ := finS_len xs _ n k1
  exact ⟨q1, q2, q3, by unfold nearV; omega, by unfold nearV; omega⟩
theorem kRows_tail (ks : List KE) : (kRows ks).tail = kRows ks.tail := by simp [kRows]
theorem hRows_tail (hs : List HE) : (hRows hs).tail = hRows hs.tail := by simp [hRows]
def cellsN : NF → List AV
  | .nil => [nilA, nilA]
  | .oo => [.own 3, .own 4]
  | .os => [.own 3, .sub 4 1 5]
  | .so => [.sub 3 1 5, .own 4]
end Go.Proofs.Ytloffpgdclbkhaa
