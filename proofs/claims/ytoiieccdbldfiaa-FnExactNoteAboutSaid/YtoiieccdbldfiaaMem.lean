import Derived.Test.YtoiieccdbldfiaaRows
import Derived.WalkKit
import Derived.ProofKit
import Derived.OpenShut
import Derived.Below
import Derived.Lib.Hide
import Derived.Deep.Draws
import Derived.OneCell
namespace Go.Proofs.Ytoiieccdbldfiaa
open Go.ChangeShapes Go.WideShapes Go.ChangeAt Go.RowKit

theorem ret_i {k : IntKind} {a b : Int} (h : a = b) : Ending.returned (.int k a) = .returned (.int k b) := by rw [h]
theorem ret_b {a b : Bool} (h : a = b) : Ending.returned (.bool a) = .returned (.bool b) := by rw [h]

/-- a byte as a value -/
def bval (x : UInt8) : Value := .int .u8 (x.toNat : Int)
def bv (xs : List UInt8) : List Value := xs.map bval
theorem bv_len (xs : List UInt8) : (bv xs).length = xs.length := by simp [bv]
theorem bv_at (xs : List UInt8) (k : Nat) : (bv xs)[k]? = (xs[k]?).map bval := by simp [bv]
theorem bv_append (a b : List UInt8) : bv (a ++ b) = bv a ++ bv b := by simp [bv]
theorem bv_take (a : List UInt8) (k : Nat) : bv (a.take k) = (bv a).take k := by simp [bv, List.map_take]

/-- A slice value of n one-cell elements reads as the cells xs; they lie below block B. -/
structure Rd (w : World) (B : Nat) (A : Option Addr) (n : Nat) (xs : List Value) : Prop where
  len : xs.length = n
  cells : 0 < n → ∃ b off, A = some ⟨b, off, none⟩ ∧ b < B ∧ ∀ j u, xs[j]? = some u → w.cell? ⟨b, off + j, none⟩ = some u

section
variable {w w' : World} {B B' n : Nat} {A : Option Addr} {xs : List Value}
theorem Rd.keep (h : Rd w B A n xs) (hk : ∀ p : Addr, p.block < B → w'.cell? p = w.cell? p) : Rd w' B A n xs :=
  ⟨h.len, fun hn => by
    obtain ⟨b, off, e, hb, hc⟩ := h.cells hn
    exact ⟨b, off, e, hb, fun j u hu => (hk _ hb).trans (hc j u hu)⟩⟩
theorem Rd.up (h : Rd w B A n xs) (hB : B ≤ B') : Rd w B' A n xs :=
  ⟨h.len, fun hn => by
    obtain ⟨b, off, e, hb, hc⟩ := h.cells hn
    exact ⟨b, off, e, by omega, hc⟩⟩
theorem Rd.below (h : Rd w B A n xs) (hb : Below B w w') : Rd w' B A n xs := h.keep fun _ hp => hb.cell hp
theorem Rd.at_ {k : Nat} (h : Rd w B A n xs) (hk : k < n) : ∃ b off u, A = some ⟨b, off, none⟩ ∧ b < B ∧ xs[k]? = some u ∧ w.cell? ⟨b, off + k, none⟩ = some u := by
  obtain ⟨b, off, e, hb, hc⟩ := h.cells (by omega)
  have hl : k < xs.length := by have := h.len; omega
  exact ⟨b, off, xs[k], e, hb, List.getElem?_eq_getElem hl, hc k _ (List.getElem?_eq_getElem hl)⟩
theorem Rd.of_own {base c : Nat} {e : TypeId} (h : w.ownsRow base e 1 (.slice A n c) n xs) : Rd w w.heap.size A n xs := by
  refine ⟨by simpa using h.1, fun hn => ?_⟩
  rcases h.2 with ⟨hv, h0⟩ | ⟨g, cap, cur, hv, hg, hh, _⟩
  · omega
  · injection hv with hA _ _
    subst hA
    refine ⟨g, 0, rfl, (Array.getElem?_eq_some_iff.1 hh).1, fun j u hu => ?_⟩
    have := h.cells (g := g) rfl j u hu
    unfold Addr.add at this
    by_cases hj : j = 0 <;> simp_all
end

/-- bytes -/
theorem Rd.byte {w : World} {B n k : Nat} {A : Option Addr} {xs : List UInt8} (h : Rd w B A n (bv xs)) (hk : k < n) :
    ∃ b off x, A = some ⟨b, off, none⟩ ∧ b < B ∧ xs[k]? = some x ∧ w.cell? ⟨b, off + k, none⟩ = some (.int .u8 (x.toNat : Int)) := by
  obtain ⟨b, off, u, e, hb, hu, hc⟩ := h.at_ hk
  rw [bv_at] at hu
  rcases hx : xs[k]? with _ | x
  · rw [hx] at hu; simp at hu
  · rw [hx] at hu
    simp [bval] at hu
    subst hu
    exact ⟨b, off, x, e, hb, rfl, hc⟩

/-- A call hands back bytes in new memory. -/
def RetB (B : Nat) (xs : List UInt8) (w : World) (e : Ending) (w' : World) : Prop :=
  ∃ A n c, e = .returned (.slice A n c) ∧ w'.ownsRow B 5 1 (.slice A n c) n (bv xs) ∧ Below B w w'

/-- A call hands back bytes that are as many as n. -/
def RetR (B n : Nat) (xs : List UInt8) (w : World) (e : Ending) (w' : World) : Prop :=
  ∃ A c, e = .returned (.slice A n c) ∧ Rd w' w'.heap.size A n (bv xs) ∧ Below B w w'
theorem own_len {w : World} {B n : Nat} {e : TypeId} {v : Value} {xs : List UInt8} (h : w.ownsRow B e 1 v n (bv xs)) : n = xs.length := by
  have := h.1; rw [bv_len] at this; omega
theorem rd_len {w : World} {B n : Nat} {A : Option Addr} {xs : List UInt8} (h : Rd w B A n (bv xs)) : n = xs.length := by
  have := h.len; rw [bv_len] at this; omega
theorem RetB.rd {B n : Nat} {xs : List UInt8} {w w' : World} {e : Ending} (hn : n = xs.length) (h : RetB B xs w e w') : RetR B n xs w e w' := by
  obtain ⟨A, n', c, he, ho, hb⟩ := h
  obtain rfl : n' = n := by have := own_len ho; omega
  exact ⟨A, c, he, Rd.of_own ho, hb⟩

theorem Try.info5 : (Try.prog.info? 5).map (fun i => (i.zero, i.size, i.bytes)) = some (some (.int .u8 0), 1, 1) := by kernel_rfl

theorem fill_step {xs : List UInt8} {n k : Nat} {x : UInt8} (hn : n = xs.length) (hx : xs[k]? = some x) (z : Value) :
    ((bv xs).take k ++ List.replicate (n - k) z).set k (.int .u8 (x.toNat : Int)) = (bv xs).take (k + 1) ++ List.replicate (n - (k + 1)) z := by
  obtain ⟨hk, hxe⟩ := List.getElem?_eq_some_iff.1 hx
  have hl : ((bv xs).take k).length = k := by rw [List.length_take, bv_len]; omega
  have hm : n - k = (n - (k + 1)) + 1 := by omega
  rw [hm, List.replicate_succ, List.set_append_right _ _ (by omega), hl, Nat.sub_self, List.set_cons_zero, List.take_add_one, bv_at, hx]
  simp [bval]

theorem made_one (z : Value) (n : Nat) : (madeCells #[z] n).toList = List.replicate n z := by
  simp only [madeCells, List.size_toArray, List.length_cons, List.length_nil, Array.toList_map, Array.toList_range]
  apply List.ext_getElem?
  intro i
  rw [List.getElem?_map, List.getElem?_replicate]
  by_cases h : i < n
  · rw [if_pos h, List.getElem?_range h]
    simp [Nat.mod_one]
  · rw [if_neg h, List.getElem?_eq_none (by simpa using h)]
    rfl

theorem below_drawn (B : Nat) (w : World) (d : Nat) : Below B w (w.drewN d) := ⟨rfl, rfl, rfl, Nat.le_refl _, fun _ _ => rfl⟩

theorem take_snoc_eq {xs ys : List UInt8} {k : Nat} {x : UInt8} (h : xs.take k = ys.take k) (hx : xs[k]? = some x) (hy : ys[k]? = some x) : xs.take (k + 1) = ys.take (k + 1) := by
  rw [List.take_add_one, List.take_add_one, h, hx, hy]
theorem ne_at {xs ys : List UInt8} {k : Nat} {x y : UInt8} (hx : xs[k]? = some x) (hy : ys[k]? = some y) (hne : x ≠ y) : (xs == ys) = false := by
  rw [beq_eq_false_iff_ne]
  rintro rfl
  rw [hx] at hy
  exact hne (Option.some.inj hy)
theorem eq_full {xs ys : List UInt8} {k : Nat} (h : xs.take k = ys.take k) (hx : k = xs.length) (hy : k = ys.length) : (xs == ys) = true := by
  rw [beq_iff_eq]
  rw [List.take_of_length_le (by omega), List.take_of_length_le (by omega)] at h
  exact h
theorem ne_len {xs ys : List UInt8} (h : xs.length ≠ ys.length) : (xs == ys) = false := by
  rw [beq_eq_false_iff_ne]
  rintro rfl
  exact h rfl

/-- what an argument of type []byte gives -/
theorem rd_of_ints {w : World} {x : Addr} {len cap : Nat} {zs : List Int} (hl : len ≤ cap) (hz : zs.length = cap)
    (hcell : ∀ i, i < zs.length → w.cell? (x.add i) = some (.int .u8 (zs.getD i 0))) (hwz : ∀ n ∈ zs, (Lit.int .u8 n).wf = true) :
    ∃ xs, Rd w w.heap.size (some x) len (bv xs) := by
  refine ⟨(zs.take len).map fun z => UInt8.ofNat z.toNat, by simp [bv]; omega, fun hn => ?_⟩
  obtain ⟨b, off, spot⟩ := x
  have hc0 := hcell 0 (by omega)
  have hs : spot = none := by simpa [Addr.add] using World.cell?_spot hc0
  subst hs
  refine ⟨b, off, rfl, by simpa [Addr.add] using World.block_lt_of_cell? w _ hc0, fun j u hu => ?_⟩
  have hj : j < len := by
    have := (List.getElem?_eq_some_iff.1 hu).1
    simp [bv] at this
    omega
  have hc := hcell j (by omega)
  have hjz : j < zs.length := by omega
  have hg : zs.getD j 0 = zs[j] := by simp [List.getD, hjz]
  have hw := hwz zs[j] (List.getElem_mem hjz)
  rw [hg] at hc
  have hb : 0 ≤ zs[j] ∧ zs[j] ≤ 255 := by simpa [Lit.wf, IntKind.min, IntKind.max, IntKind.signed, IntKind.bits] using hw
  have ha : (⟨b, off, none⟩ : Addr).add j = ⟨b, off + j, none⟩ := by unfold Addr.add; split <;> simp_all
  rw [ha] at hc
  rw [hc]
  simp [bv, hj, hjz, bval] at hu
  rw [← hu]
  congr 2
  omega
theorem rd_nil (w : World) : Rd w w.heap.size none 0 (bv []) := ⟨rfl, fun h => absurd h (by omega)⟩
end Go.Proofs.Ytoiieccdbldfiaa

namespace Go.Proofs.Ytoiieccdbldfiaa
open Go.ChangeShapes Go.WideShapes Go.ChangeAt Go.RowKit

theorem grown_tr {a w w' : World} {row : Option Nat} (h : a.grownBy w row) (k : w.grownBy w' row) : a.grownBy w' row :=
  ⟨k.os.trans h.os, k.tape.trans h.tape, k.output.trans h.output, Nat.le_trans h.size k.size, fun i hi hne => (k.block i (Nat.lt_of_lt_of_le hi h.size) hne).trans (h.block i hi hne)⟩
theorem undrew {B : Nat} {w w' : World} (h : Below B w.drew w') : Below B w w' := ⟨h.os, h.tape, h.output, h.size, h.block⟩
theorem undrewN {B d : Nat} {w w' : World} (h : Below B (w.drewN d) w') : Below B w w' := ⟨h.os, h.tape, h.output, h.size, h.block⟩
theorem own_shape {w : World} {B n : Nat} {e : TypeId} {v : Value} {xs : List Value} (h : w.ownsRow B e 1 v n xs) : ∃ A c, v = .slice A n c := by
  rcases h.2 with ⟨rfl, rfl⟩ | ⟨g, cap, cur, rfl, _⟩
  · exact ⟨_, _, rfl⟩
  · exact ⟨_, _, rfl⟩
theorem own_cap {w : World} {B n c : Nat} {A : Option Addr} {e : TypeId} {xs : List Value} (h : w.ownsRow B e 1 (.slice A n c) n xs) : n ≤ c ∧ c ≤ maxLen := by
  rcases h.2 with ⟨hv, h0⟩ | ⟨g, cap, cur, hv, _, _, hnc, hcm, _⟩
  · injection hv with _ h1 h2
    subst h0 h2
    exact ⟨Nat.le_refl _, by simp [maxLen]⟩
  · injection hv with _ _ h2
    subst h2
    exact ⟨hnc, hcm⟩
theorem own_block_ge {w : World} {B n : Nat} {e : TypeId} {v : Value} {xs : List Value} (h : w.ownsRow B e 1 v n xs) : ∀ k, v.ownBlock = some k → B ≤ k := fun k hk => (h.lt k hk).1
theorem own_below {w w' : World} {B C n : Nat} {e : TypeId} {v : Value} {xs : List Value} (h : w.ownsRow B e 1 v n xs) (hb : Below C w w') (hC : w.heap.size ≤ C) : w'.ownsRow B e 1 v n xs := by
  refine ⟨h.1, ?_⟩
  rcases h.2 with h2 | ⟨g, cap, cur, hv, hg, hh, r⟩
  · exact .inl h2
  · refine .inr ⟨g, cap, cur, hv, hg, ?_, r⟩
    rw [hb.block g (by have := (Array.getElem?_eq_some_iff.1 hh).1; omega)]
    exact hh
theorem own_base {w : World} {B B' n : Nat} {e : TypeId} {v : Value} {xs : List Value} (h : w.ownsRow B e 1 v n xs) (hB : B' ≤ B) : w.ownsRow B' e 1 v n xs := by
  refine ⟨h.1, ?_⟩
  rcases h.2 with h2 | ⟨g, cap, cur, hv, hg, r⟩
  · exact .inl h2
  · exact .inr ⟨g, cap, cur, hv, by omega, r⟩
theorem RetB.of_own {w w' : World} {B n : Nat} {v : Value} {xs : List UInt8} (h : w'.ownsRow B 5 1 v n (bv xs)) (hb : Below B w w') : RetB B xs w (.returned v) w' := by
  obtain ⟨A, c, rfl⟩ := own_shape h
  exact ⟨A, n, c, rfl, h, hb⟩
theorem own_some {w : World} {B n c : Nat} {A : Option Addr} {e : TypeId} {xs : List Value} (h : w.ownsRow B e 1 (.slice A n c) n xs) (hn : 0 < n) : ∃ g, A = some ⟨g, 0, none⟩ ∧ B ≤ g ∧ g < w.heap.size := by
  rcases h.2 with ⟨_, h0⟩ | ⟨g, cap, cur, hv, hg, hh, _⟩
  · omega
  · injection hv with hA _ _
    exact ⟨g, hA, hg, (Array.getElem?_eq_some_iff.1 hh).1⟩
/-- one byte of an owned row: what it is, and that it may be set -/
theorem own_byte {w : World} {B n c g k : Nat} {xs : List UInt8} {x : UInt8} (h : w.ownsRow B 5 1 (.slice (some ⟨g, 0, none⟩) n c) n (bv xs)) (hx : xs[k]? = some x) :
    w.cell? ⟨g, k, none⟩ = some (.int .u8 (x.toNat : Int)) ∧ w.frozen? ⟨g, k, none⟩ = false ∧
    ∀ y : UInt8, (w.setCell ⟨g, k, none⟩ (.int .u8 (y.toNat : Int))).ownsRow B 5 1 (.slice (some ⟨g, 0, none⟩) n c) n (bv (xs.set k y)) ∧ w.grownBy (w.setCell ⟨g, k, none⟩ (.int .u8 (y.toNat : Int))) (some g) := by
  have hk := (List.getElem?_eq_some_iff.1 hx).1
  have hl := own_len h
  refine ⟨?_, h.frozenAt k, fun y => ?_⟩
  · rw [h.cellAt k (by omega), bv_at, hx]; rfl
  · have hs := h.stored k (.int .u8 (y.toNat : Int))
    have hset : (bv xs).set k (.int .u8 (y.toNat : Int)) = bv (xs.set k y) := by simp [bv, bval, List.map_set]
    rwa [hset] at hs
theorem own_empty (w : World) (B : Nat) (hB : B ≤ w.heap.size) : (w.alloc (.cells #[] 5)).ownsRow B 5 1 (.slice (some ⟨w.heap.size, 0, none⟩) 0 0) 0 (bv []) :=
  World.ownsRow_made _ _ _ hB (by simp [maxLen]) rfl

theorem cell_new_one (w : World) (v : Value) (t : TypeId) : (w.alloc (.cells #[v] t)).cell? ⟨w.heap.size, 0, none⟩ = some v := by
  rw [World.cell?_alloc_new]; rfl

/-- a cut of a slice of bytes -/
theorem rd_cut {w : World} {B b off n : Nat} {xs : List UInt8} (h : Rd w B (some ⟨b, off, none⟩) n (bv xs)) {lo k : Nat} (hk : lo + k ≤ n) :
    Rd w B (some ⟨b, off + lo, none⟩) k (bv ((xs.drop lo).take k)) := by
  have hl := rd_len h
  refine ⟨by rw [bv_len, List.length_take, List.length_drop]; omega, fun hn => ?_⟩
  obtain ⟨b', off', e, hb, hc⟩ := h.cells (by omega)
  obtain ⟨rfl, rfl⟩ : b = b' ∧ off = off' := by simpa using e
  refine ⟨b, off + lo, rfl, hb, fun j u hu => ?_⟩
  have hj : j < k := by
    have := (List.getElem?_eq_some_iff.1 hu).1
    rw [bv_len, List.length_take, List.length_drop] at this
    omega
  rw [Nat.add_assoc]
  refine hc (lo + j) u ?_
  rw [← hu, bv_at, bv_at, List.getElem?_take, if_pos hj, List.getElem?_drop]

theorem own_lit (w : World) (B n : Nat) (l : List UInt8) (cs : Array Value) (hc : cs.toList = bv l) (hn : n = l.length) (hm : n ≤ 1099511627776) (hB : B ≤ w.heap.size) {g : Nat} (hg : g = w.heap.size) :
    (w.alloc (.cells cs 5)).ownsRow B 5 1 (.slice (some ⟨g, 0, none⟩) n n) n (bv l) := by
  subst hg
  have hs : cs.size = n := by rw [← Array.length_toList, hc, bv_len, hn]
  refine ⟨by rw [bv_len]; omega, .inr ⟨w.heap.size, n, cs, rfl, hB, heap_alloc_new w _, Nat.le_refl _, by unfold maxLen; omega, by omega, ?_⟩⟩
  rw [← hc]
  exact List.take_of_length_le (by rw [Array.length_toList]; omega)

set_option maxRecDepth 100000 in
/-- bytes are appended to a row of the call's own, whatever their slice is -/
theorem wp_app {w : World} {o : Oper} {a : Act} {K : Act → World → Prop} {Q : Exit → Act → World → Prop} (s x : Operand)
    (ho : o.op = .call { callee := .builtin .append, args := #[s, x], argTypes := #[22, 22] })
    {base n : Nat} {v : Value} {xs : List UInt8} (hown : w.ownsRow base 5 1 v n (bv xs)) (hs : a.eval s = v)
    {A : Option Addr} {m c B : Nat} {ys : List UInt8} (hx : a.eval x = .slice A m c) (hr : Rd w B A m (bv ys))
    (hn : n + m ≤ 1099511627776) (hbase : base ≤ w.heap.size)
    (h : ∀ v' w', w'.ownsRow base 5 1 v' (n + m) (bv (xs ++ ys)) → w.grownBy w' v.ownBlock → K (a.put o.dst v') w') :
    o.wp Try.prog a w K Q := by
  obtain ⟨i0, hi, hz0, hz1, hz2⟩ := info_parts Try.info5
  rcases A with _ | ad
  · have hm : m = 0 := by
      rcases Nat.eq_zero_or_pos m with h0 | h0
      · exact h0
      · obtain ⟨_, _, e, _⟩ := hr.cells h0
        cases e
    subst hm
    have hys : ys = [] := List.eq_nil_of_length_eq_zero (rd_len hr).symm
    subst hys
    have hrun : (Builtin.append_ #[22, 22] o.type #[v, .slice none 0 c]).run Try.prog w = .ok v w := by
      rcases hown.2 with ⟨rfl, rfl⟩ | ⟨g, cap, cur, rfl, _, _, hnc, _⟩
      · simp [Builtin.append_, run_underlying Try.underlying22, sizeOf, typeInfo, hi, Builtin.lenOf, Builtin.firstCells]
      · simp [Builtin.append_, run_underlying Try.underlying22, sizeOf, typeInfo, hi, Builtin.lenOf, Builtin.firstCells, hnc, storeCells]
    unfold Oper.wp execOp
    simp only [ho, resolve, invoke, builtin, Sem.run_bind, Sem.run_pure, Result.andThen_ok, List.map_toArray, List.map_cons, List.map_nil, hs, hx, hrun]
    exact (h v w (by simpa using hown) (World.grownBy.refl _ _))
  · refine wp_append_own _ s x 22 ho base 5 i0 (.int .u8 0) 1 1 Try.underlying22 hi hz0 hz1 hz2 rfl (by decide) v n (bv xs) hs hown ad m c (bv ys) hx (by rw [bv_len, ← rd_len hr]; omega) ?_ ?_ (by unfold maxLen; omega) (by omega) hbase ?_
    · intro j u hj
      have hjm : j < m := by
        have := (List.getElem?_eq_some_iff.1 hj).1
        rw [bv_len, ← rd_len hr] at this
        exact this
      obtain ⟨b, off, e, _, hc⟩ := hr.cells (show 0 < m by omega)
      injection e with e
      subst e
      have ha : (⟨b, off, none⟩ : Addr).add j = ⟨b, off + j, none⟩ := by unfold Addr.add; split <;> simp_all
      rw [ha]
      exact hc j u hj
    · intro u hu
      simp only [bv, List.mem_map] at hu
      obtain ⟨y, _, rfl⟩ := hu
      rfl
    · intro v' w' hown' hgrow _
      exact h v' w' (by rw [bv_append]; exact hown') hgrow

theorem app_slice {w : World} {ops : Array Oper} {rest : List Oper} {o : Oper} {a : Act} {Q : Exit → Act → World → Prop} (hw : Region.wanted o (yielded ops a.tmps) = true) (s x : Operand)
    (ho : o.op = .call { callee := .builtin .append, args := #[s, x], argTypes := #[22, 22] })
    {base n : Nat} {v : Value} {xs : List UInt8} (hown : w.ownsRow base 5 1 v n (bv xs)) (hs : a.eval s = v)
    {A : Option Addr} {m c B : Nat} {ys : List UInt8} (hx : a.eval x = .slice A m c) (hr : Rd w B A m (bv ys))
    (hn : n + m ≤ 1099511627776) (hbase : base ≤ w.heap.size)
    (h : ∀ v' w', w'.ownsRow base 5 1 v' (n + m) (bv (xs ++ ys)) → w.grownBy w' v.ownBlock → wpList Try.prog ops Q rest (a.put o.dst v') w') :
    wpList Try.prog ops Q (o :: rest) a w := by
  refine wpList_step fun K hK => ?_
  rw [if_pos hw]
  exact wp_app s x ho hown hs hx hr hn hbase fun v' w' h1 h2 => hK _ _ (h v' w' h1 h2)

/-- at a step of a region that draws its order -/
theorem step_app {w W0 : World} {ops : Array Oper} {o : Oper} {a : Act} {K : Act → World → Prop} {Q : Exit → Act → World → Prop} {E : Prop} (hw : Region.wanted o (yielded ops a.tmps) = true) (s x : Operand)
    (ho : o.op = .call { callee := .builtin .append, args := #[s, x], argTypes := #[22, 22] })
    {B0 base n : Nat} {v : Value} {xs : List UInt8} (hown : w.ownsRow base 5 1 v n (bv xs)) (hb : Below B0 W0 w) (hs : a.eval s = v)
    {A : Option Addr} {m c B : Nat} {ys : List UInt8} (hx : a.eval x = .slice A m c) (hr : Rd w B A m (bv ys))
    (hn : n + m ≤ 1099511627776) (hB : B0 ≤ base) (hbase : base ≤ w.heap.size)
    (h : ∀ A' c' w', w'.ownsRow base 5 1 (.slice A' (n + m) c') (n + m) (bv (xs ++ ys)) → Below B0 W0 w' → K (a.put o.dst (.slice A' (n + m) c')) w') :
    if Region.wanted o (yielded ops a.tmps) = true then Oper.wp Try.prog o a w K Q else E := by
  rw [if_pos hw]
  refine wp_app s x ho hown hs hx hr hn hbase fun v' w' h1 h2 => ?_
  obtain ⟨A', c', rfl⟩ := own_shape h1
  exact h A' c' w' h1 (hb.grown h2 (by omega) (fun k hk => by have := own_block_ge hown k hk; omega))

/-- the same; what was there is told by the row alone -/
theorem step_app_g {w : World} {ops : Array Oper} {o : Oper} {a : Act} {K : Act → World → Prop} {Q : Exit → Act → World → Prop} {E : Prop} (hw : Region.wanted o (yielded ops a.tmps) = true) (s x : Operand)
    (ho : o.op = .call { callee := .builtin .append, args := #[s, x], argTypes := #[22, 22] })
    {base n : Nat} {v : Value} {xs : List UInt8} (hown : w.ownsRow base 5 1 v n (bv xs)) (hs : a.eval s = v)
    {A : Option Addr} {m c B : Nat} {ys : List UInt8} (hx : a.eval x = .slice A m c) (hr : Rd w B A m (bv ys))
    (hn : n + m ≤ 1099511627776) (hbase : base ≤ w.heap.size)
    (h : ∀ A' c' w', w'.ownsRow base 5 1 (.slice A' (n + m) c') (n + m) (bv (xs ++ ys)) → w.grownBy w' v.ownBlock → K (a.put o.dst (.slice A' (n + m) c')) w') :
    if Region.wanted o (yielded ops a.tmps) = true then Oper.wp Try.prog o a w K Q else E := by
  rw [if_pos hw]
  refine wp_app s x ho hown hs hx hr hn hbase fun v' w' h1 h2 => ?_
  obtain ⟨A', c', rfl⟩ := own_shape h1
  exact h A' c' w' h1 h2

/-- the same, told in terms of an earlier world W0: what was there below B0 is as it was -/
theorem app_on {w W0 : World} {ops : Array Oper} {rest : List Oper} {o : Oper} {a : Act} {Q : Exit → Act → World → Prop} (hw : Region.wanted o (yielded ops a.tmps) = true) (s x : Operand)
    (ho : o.op = .call { callee := .builtin .append, args := #[s, x], argTypes := #[22, 22] })
    {B0 base n : Nat} {v : Value} {xs : List UInt8} (hown : w.ownsRow base 5 1 v n (bv xs)) (hb : Below B0 W0 w) (hs : a.eval s = v)
    {A : Option Addr} {m c B : Nat} {ys : List UInt8} (hx : a.eval x = .slice A m c) (hr : Rd w B A m (bv ys))
    (hn : n + m ≤ 1099511627776) (hB : B0 ≤ base) (hbase : base ≤ w.heap.size)
    (h : ∀ A' c' w', w'.ownsRow base 5 1 (.slice A' (n + m) c') (n + m) (bv (xs ++ ys)) → Below B0 W0 w' → wpList Try.prog ops Q rest (a.put o.dst (.slice A' (n + m) c')) w') :
    wpList Try.prog ops Q (o :: rest) a w := by
  refine app_slice hw s x ho hown hs hx hr hn hbase fun v' w' h1 h2 => ?_
  obtain ⟨A', c', rfl⟩ := own_shape h1
  exact h A' c' w' h1 (hb.grown h2 (by omega) (fun k hk => by have := own_block_ge hown k hk; omega))

/-- bytes are appended to a new empty row: a copy in new memory -/
theorem app_new {W : World} {ops : Array Oper} {rest : List Oper} {o : Oper} {a : Act} {Q : Exit → Act → World → Prop} (hw : Region.wanted o (yielded ops a.tmps) = true) (s x : Operand)
    (ho : o.op = .call { callee := .builtin .append, args := #[s, x], argTypes := #[22, 22] })
    {g : Nat} (hg : g = W.heap.size) (hs : a.eval s = .slice (some ⟨g, 0, none⟩) 0 0)
    {A : Option Addr} {m c B : Nat} {ys : List UInt8} (hx : a.eval x = .slice A m c) (hr : Rd W B A m (bv ys)) (hn : m ≤ 1099511627776) (hB : B ≤ W.heap.size)
    (h : ∀ A' c' w', w'.ownsRow W.heap.size 5 1 (.slice A' m c') m (bv ys) → Below W.heap.size W w' → wpList Try.prog ops Q rest (a.put o.dst (.slice A' m c')) w') :
    wpList Try.prog ops Q (o :: rest) a (W.alloc (.cells #[] 5)) := by
  refine app_on hw s x ho (own_lit W W.heap.size 0 [] #[] rfl rfl (by omega) (Nat.le_refl _) hg) (W0 := W) ((Below.refl W.heap.size W).alloc (Nat.le_refl _) _) hs hx (hr.below ((Below.refl B W).alloc hB _)) (by omega) (Nat.le_refl _) (by simp) fun A' c' w' h1 h2 => ?_
  rw [Nat.zero_add] at h1 ⊢
  exact h A' c' w' h1 h2

/-- one byte is appended to a row of the call's own -/
theorem app_byte {w w0 : World} {ops : Array Oper} {rest : List Oper} {o : Oper} {a : Act} {Q : Exit → Act → World → Prop} (hgd : o.guard = none) (s x : Operand)
    (ho : o.op = .call { callee := .builtin .append, args := #[s, x], argTypes := #[22, 22] })
    {B0 base n : Nat} {v : Value} {xs : List UInt8} (hown : w.ownsRow base 5 1 v n (bv xs)) (hs : a.eval s = v)
    {g c : Nat} {y : Int} (hx : a.eval x = .slice (some ⟨g, 0, none⟩) 1 c) (hcell : w.cell? ⟨g, 0, none⟩ = some (.int .u8 y)) (hy1 : 0 ≤ y) (hy2 : y ≤ 255)
    (hn : n ≤ 1099511627776) (hb : Below B0 w0 w) (hB : B0 ≤ base) (hbase : base ≤ w.heap.size)
    (h : ∀ v' w', w'.ownsRow base 5 1 v' (n + 1) (bv (xs ++ [UInt8.ofNat y.toNat])) → Below B0 w0 w' → w.grownBy w' v.ownBlock → wpList Try.prog ops Q rest (a.put o.dst v') w') :
    wpList Try.prog ops Q (o :: rest) a w := by
  obtain ⟨i0, hi, hz0, hz1, hz2⟩ := info_parts Try.info5
  refine wpList_append_own _ hgd s x 22 ho base 5 i0 (.int .u8 0) 1 1 Try.underlying22 hi hz0 hz1 hz2 rfl (by decide) v n (bv xs) hs hown ⟨g, 0, none⟩ 1 c [.int .u8 y] hx rfl ?_ ?_ (by unfold maxLen; omega) (by omega) hbase ?_
  · intro j u hj
    match j, hj with
    | 0, hj => simp at hj; subst hj; simpa [Addr.add] using hcell
  · intro u hu; simp at hu; subst hu; rfl
  · intro v' w' hown' hgrow _
    refine h v' w' ?_ (hb.grown hgrow (by omega) (fun k hk => by have := own_block_ge hown k hk; omega)) hgrow
    rw [bv_append]
    have e : bv [UInt8.ofNat y.toNat] = [.int .u8 y] := by
      simp [bv, bval]
      omega
    rw [e]
    exact hown'
end Go.Proofs.Ytoiieccdbldfiaa

namespace Go.Proofs.Ytoiieccdbldfiaa
open Go.ChangeShapes Go.WideShapes Go.ChangeAt Go.RowKit

theorem name_world {P : Program} {c : Code} {Q : Exit → Act → World → Prop} {a : Act} {w : World} (h : ∀ W, W = w → c.wp P Q a W) : c.wp P Q a w := h w rfl
theorem cells4 {w : World} {g : Nat} {a b c d : Value} {T : TypeId} (h : w.heap[g]? = some (.cells #[a, b, c, d] T (0, 0))) :
    w.cell? ⟨g, 0, none⟩ = some a ∧ w.cell? ⟨g, 1, none⟩ = some b ∧ w.cell? ⟨g, 2, none⟩ = some c ∧ w.cell? ⟨g, 3, none⟩ = some d :=
  ⟨cell_of_row w g 0 _ _ _ h, cell_of_row w g 1 _ _ _ h, cell_of_row w g 2 _ _ _ h, cell_of_row w g 3 _ _ _ h⟩

theorem frozen4 {w : World} {g : Nat} {a b c d : Value} {T : TypeId} (h : w.heap[g]? = some (.cells #[a, b, c, d] T (0, 0))) :
    w.frozen? ⟨g, 0, none⟩ = false ∧ w.frozen? ⟨g, 1, none⟩ = false ∧ w.frozen? ⟨g, 2, none⟩ = false ∧ w.frozen? ⟨g, 3, none⟩ = false :=
  ⟨frozen_of_row w g 0 _ _ h, frozen_of_row w g 1 _ _ h, frozen_of_row w g 2 _ _ h, frozen_of_row w g 3 _ _ h⟩
theorem grown_set (w : World) (g i : Nat) (u : Value) : w.grownBy (w.setCell ⟨g, i, none⟩ u) (some g) :=
  ⟨rfl, rfl, rfl, by simp, fun k _ hk => heap_setCell_other w ⟨g, i, none⟩ k _ (fun e => hk (by simp [e]))⟩
theorem own_row_ne {w : World} {g base n : Nat} {v : Value} {xs : List Value} {cs : Array Value} {e T : TypeId} {fr : Nat × Nat} (h : w.ownsRow base e 1 v n xs) (hg : w.heap[g]? = some (.cells cs T fr)) (hT : T ≠ e) : v.ownBlock ≠ some g := by
  rcases h.2 with ⟨rfl, _⟩ | ⟨g', cap, cur, rfl, _, hg', _⟩
  · simp [Value.ownBlock]
  · intro e
    obtain rfl : g' = g := by simpa [Value.ownBlock] using e
    rw [hg] at hg'
    injection hg' with hh
    injection hh with _ ht
    exact hT ht
theorem store4 {w : World} {g : Nat} {a b c d : Value} {T : TypeId} (h : w.heap[g]? = some (.cells #[a, b, c, d] T (0, 0))) (x0 x1 x2 x3 : Value) :
    ((((w.setCell ⟨g, 0, none⟩ x0).setCell ⟨g, 1, none⟩ x1).setCell ⟨g, 2, none⟩ x2).setCell ⟨g, 3, none⟩ x3).heap[g]? = some (.cells #[x0, x1, x2, x3] T (0, 0)) ∧
    w.grownBy ((((w.setCell ⟨g, 0, none⟩ x0).setCell ⟨g, 1, none⟩ x1).setCell ⟨g, 2, none⟩ x2).setCell ⟨g, 3, none⟩ x3) (some g) := by
  have h0 := heap_setCell_same w g 0 _ _ x0 h
  have h1 := heap_setCell_same _ g 1 _ _ x1 h0
  have h2 := heap_setCell_same _ g 2 _ _ x2 h1
  have h3 := heap_setCell_same _ g 3 _ _ x3 h2
  refine ⟨h3, ?_⟩
  exact grown_tr (grown_tr (grown_tr (grown_set w g 0 x0) (grown_set _ g 1 x1)) (grown_set _ g 2 x2)) (grown_set _ g 3 x3)
end Go.Proofs.Ytoiieccdbldfiaa
