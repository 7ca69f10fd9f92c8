import Derived.Test.YtnnpijjdjdnffabMem
namespace Go.Proofs.Ytnnpijjdjdnffab
open Go.ChangeShapes Go.WideShapes Go.ChangeAt Go.RowKit

theorem grown_tr {a w w' : World} {row : Option Nat} (h : a.grownBy w row) (k : w.grownBy w' row) : a.grownBy w' row :=
  ⟨k.os.trans h.os, k.tape.trans h.tape, k.output.trans h.output, Nat.le_trans h.size k.size, fun i hi hne => (k.block i (Nat.lt_of_lt_of_le hi h.size) hne).trans (h.block i hi hne)⟩
theorem undrew {B : Nat} {w w' : World} (h : Below B w.drew w') : Below B w w' := ⟨h.os, h.tape, h.output, h.size, h.block⟩
theorem undrewN {B d : Nat} {w w' : World} (h : Below B (w.drewN d) w') : Below B w w' := ⟨h.os, h.tape, h.output, h.size, h.block⟩
theorem own_shape {w : World} {B n : Nat} {e : TypeId} {v : Value} {xs : List Value} (h : w.ownsRow B e 1 v n xs) : ∃ A c, v = .slice A n c := by
  rcases h.2 with ⟨rfl, rfl⟩ | ⟨g, cap, cur, rfl, _⟩
  · exact ⟨_, _, rfl⟩
  · exact ⟨_, _, rfl⟩
theorem own_cap {w : World} {B n c : Nat} {A : Option Addr} {e : TypeId} {xs : List Value} (h : w.ownsRow B e 1 (.slice A n c) n xs) : n ≤ c ∧ c ≤ maxLen := by
  rcases h.2 with ⟨hv, h0⟩ | ⟨g, cap, cur, hv, _, _, hnc, hcm, _⟩
  · injection hv with _ h1 h2
    subst h0 h2
    exact ⟨Nat.le_refl _, by simp [maxLen]⟩
  · injection hv with _ _ h2
    subst h2
    exact ⟨hnc, hcm⟩
theorem own_block_ge {w : World} {B n : Nat} {e : TypeId} {v : Value} {xs : List Value} (h : w.ownsRow B e 1 v n xs) : ∀ k, v.ownBlock = some k → B ≤ k := fun k hk => (h.lt k hk).1
theorem own_below {w w' : World} {B C n : Nat} {e : TypeId} {v : Value} {xs : List Value} (h : w.ownsRow B e 1 v n xs) (hb : Below C w w') (hC : w.heap.size ≤ C) : w'.ownsRow B e 1 v n xs := by
  refine ⟨h.1, ?_⟩
  rcases h.2 with h2 | ⟨g, cap, cur, hv, hg, hh, r⟩
  · exact .inl h2
  · refine .inr ⟨g, cap, cur, hv, hg, ?_, r⟩
    rw [hb.block g (by have := (Array.getElem?_eq_some_iff.1 hh).1; omega)]
    exact hh
theorem own_base {w : World} {B B' n : Nat} {e : TypeId} {v : Value} {xs : List Value} (h : w.ownsRow B e 1 v n xs) (hB : B' ≤ B) : w.ownsRow B' e 1 v n xs := by
  refine ⟨h.1, ?_⟩
  rcases h.2 with h2 | ⟨g, cap, cur, hv, hg, r⟩
  · exact .inl h2
  · exact .inr ⟨g, cap, cur, hv, by omega, r⟩
theorem RetB.of_own {w w' : World} {B n : Nat} {v : Value} {xs : List UInt8} (h : w'.ownsRow B 5 1 v n (bv xs)) (hb : Below B w w') : RetB B xs w (.returned v) w' := by
  obtain ⟨A, c, rfl⟩ := own_shape h
  exact ⟨A, n, c, rfl, h, hb⟩
theorem own_some {w : World} {B n c : Nat} {A : Option Addr} {e : TypeId} {xs : List Value} (h : w.ownsRow B e 1 (.slice A n c) n xs) (hn : 0 < n) : ∃ g, A = some ⟨g, 0, none⟩ ∧ B ≤ g ∧ g < w.heap.size := by
  rcases h.2 with ⟨_, h0⟩ | ⟨g, cap, cur, hv, hg, hh, _⟩
  · omega
  · injection hv with hA _ _
    exact ⟨g, hA, hg, (Array.getElem?_eq_some_iff.1 hh).1⟩
/-- one byte of an owned row: what it is, and that it may be set -/
theorem own_byte {w : World} {B n c g k : Nat} {xs : List UInt8} {x : UInt8} (h : w.ownsRow B 5 1 (.slice (some ⟨g, 0, none⟩) n c) n (bv xs)) (hx : xs[k]? = some x) :
    w.cell? ⟨g, k, none⟩ = some (.int .u8 (x.toNat : Int)) ∧ w.frozen? ⟨g, k, none⟩ = false ∧
    ∀ y : UInt8, (w.setCell ⟨g, k, none⟩ (.int .u8 (y.toNat : Int))).ownsRow B 5 1 (.slice (some ⟨g, 0, none⟩) n c) n (bv (xs.set k y)) ∧ w.grownBy (w.setCell ⟨g, k, none⟩ (.int .u8 (y.toNat : Int))) (some g) := by
  have hk := (List.getElem?_eq_some_iff.1 hx).1
  have hl := own_len h
  refine ⟨?_, h.frozenAt k, fun y => ?_⟩
  · rw [h.cellAt k (by omega), bv_at, hx]; rfl
  · have hs := h.stored k (.int .u8 (y.toNat : Int))
    have hset : (bv xs).set k (.int .u8 (y.toNat : Int)) = bv (xs.set k y) := by simp [bv, bval, List.map_set]
    rwa [hset] at hs
theorem own_empty (w : World) (B : Nat) (hB : B ≤ w.heap.size) : (w.alloc (.cells #[] 5)).ownsRow B 5 1 (.slice (some ⟨w.heap.size, 0, none⟩) 0 0) 0 (bv []) :=
  World.ownsRow_made _ _ _ hB (by simp [maxLen]) rfl

theorem cell_new_one (w : World) (v : Value) (t : TypeId) : (w.alloc (.cells #[v] t)).cell? ⟨w.heap.size, 0, none⟩ = some v := by
  rw [World.cell?_alloc_new]; rfl

/-- a cut of a slice of bytes -/
theorem rd_cut {w : World} {B b off n : Nat} {xs : List UInt8} (h : Rd w B (some ⟨b, off, none⟩) n (bv xs)) {lo k : Nat} (hk : lo + k ≤ n) :
    Rd w B (some ⟨b, off + lo, none⟩) k (bv ((xs.drop lo).take k)) := by
  have hl := rd_len h
  refine ⟨by rw [bv_len, List.length_take, List.length_drop]; omega, fun hn => ?_⟩
  obtain ⟨b', off', e, hb, hc⟩ := h.cells (by omega)
  obtain ⟨rfl, rfl⟩ : b = b' ∧ off = off' := by simpa using e
  refine ⟨b, off + lo, rfl, hb, fun j u hu => ?_⟩
  have hj : j < k := by
    have := (List.getElem?_eq_some_iff.1 hu).1
    rw [bv_len, List.length_take, List.length_drop] at this
    omega
  rw [Nat.add_assoc]
  refine hc (lo + j) u ?_
  rw [← hu, bv_at, bv_at, List.getElem?_take, if_pos hj, List.getElem?_drop]

theorem own_lit (w : World) (B n : Nat) (l : List UInt8) (cs : Array Value) (hc : cs.toList = bv l) (hn : n = l.length) (hm : n ≤ 1099511627776) (hB : B ≤ w.heap.size) {g : Nat} (hg : g = w.heap.size) :
    (w.alloc (.cells cs 5)).ownsRow B 5 1 (.slice (some ⟨g, 0, none⟩) n n) n (bv l) := by
  subst hg
  have hs : cs.size = n := by rw [← Array.length_toList, hc, bv_len, hn]
  refine ⟨by rw [bv_len]; omega, .inr ⟨w.heap.size, n, cs, rfl, hB, heap_alloc_new w _, Nat.le_refl _, by unfold maxLen; omega, by omega, ?_⟩⟩
  rw [← hc]
  exact List.take_of_length_le (by rw [Array.length_toList]; omega)

set_option maxRecDepth 100000 in
/-- bytes are appended to a row of the call's own, whatever their slice is -/
theorem wp_app {w : World} {o : Oper} {a : Act} {K : Act → World → Prop} {Q : Exit → Act → World → Prop} (s x : Operand)
    (ho : o.op = .call { callee := .builtin .append, args := #[s, x], argTypes := #[22, 22] })
    {base n : Nat} {v : Value} {xs : List UInt8} (hown : w.ownsRow base 5 1 v n (bv xs)) (hs : a.eval s = v)
    {A : Option Addr} {m c B : Nat} {ys : List UInt8} (hx : a.eval x = .slice A m c) (hr : Rd w B A m (bv ys))
    (hn : n + m ≤ 1099511627776) (hbase : base ≤ w.heap.size)
    (h : ∀ v' w', w'.ownsRow base 5 1 v' (n + m) (bv (xs ++ ys)) → w.grownBy w' v.ownBlock → K (a.put o.dst v') w') :
    o.wp Try.prog a w K Q := by
  obtain ⟨i0, hi, hz0, hz1, hz2⟩ := info_parts Try.info5
  rcases A with _ | ad
  · have hm : m = 0 := by
      rcases Nat.eq_zero_or_pos m with h0 | h0
      · exact h0
      · obtain ⟨_, _, e, _⟩ := hr.cells h0
        cases e
    subst hm
    have hys : ys = [] := List.eq_nil_of_length_eq_zero (rd_len hr).symm
    subst hys
    have hrun : (Builtin.append_ #[22, 22] o.type #[v, .slice none 0 c]).run Try.prog w = .ok v w := by
      rcases hown.2 with ⟨rfl, rfl⟩ | ⟨g, cap, cur, rfl, _, _, hnc, _⟩
      · simp [Builtin.append_, run_underlying Try.underlying22, sizeOf, typeInfo, hi, Builtin.lenOf, Builtin.firstCells]
      · simp [Builtin.append_, run_underlying Try.underlying22, sizeOf, typeInfo, hi, Builtin.lenOf, Builtin.firstCells, hnc, storeCells]
    unfold Oper.wp execOp
    simp only [ho, resolve, invoke, builtin, Sem.run_bind, Sem.run_pure, Result.andThen_ok, List.map_toArray, List.map_cons, List.map_nil, hs, hx, hrun]
    exact (h v w (by simpa using hown) (World.grownBy.refl _ _))
  · refine wp_append_own _ s x 22 ho base 5 i0 (.int .u8 0) 1 1 Try.underlying22 hi hz0 hz1 hz2 rfl (by decide) v n (bv xs) hs hown ad m c (bv ys) hx (by rw [bv_len, ← rd_len hr]; omega) ?_ ?_ (by unfold maxLen; omega) (by omega) hbase ?_
    · intro j u hj
      have hjm : j < m := by
        have := (List.getElem?_eq_some_iff.1 hj).1
        rw [bv_len, ← rd_len hr] at this
        exact this
      obtain ⟨b, off, e, _, hc⟩ := hr.cells (show 0 < m by omega)
      injection e with e
      subst e
      have ha : (⟨b, off, none⟩ : Addr).add j = ⟨b, off + j, none⟩ := by unfold Addr.add; split <;> simp_all
      rw [ha]
      exact hc j u hj
    · intro u hu
      simp only [bv, List.mem_map] at hu
      obtain ⟨y, _, rfl⟩ := hu
      rfl
    · intro v' w' hown' hgrow _
      exact h v' w' (by rw [bv_append]; exact hown') hgrow

theorem app_slice {w : World} {ops : Array Oper} {rest : List Oper} {o : Oper} {a : Act} {Q : Exit → Act → World → Prop} (hw : Region.wanted o (yielded ops a.tmps) = true) (s x : Operand)
    (ho : o.op = .call { callee := .builtin .append, args := #[s, x], argTypes := #[22, 22] })
    {base n : Nat} {v : Value} {xs : List UInt8} (hown : w.ownsRow base 5 1 v n (bv xs)) (hs : a.eval s = v)
    {A : Option Addr} {m c B : Nat} {ys : List UInt8} (hx : a.eval x = .slice A m c) (hr : Rd w B A m (bv ys))
    (hn : n + m ≤ 1099511627776) (hbase : base ≤ w.heap.size)
    (h : ∀ v' w', w'.ownsRow base 5 1 v' (n + m) (bv (xs ++ ys)) → w.grownBy w' v.ownBlock → wpList Try.prog ops Q rest (a.put o.dst v') w') :
    wpList Try.prog ops Q (o :: rest) a w := by
  refine wpList_step fun K hK => ?_
  rw [if_pos hw]
  exact wp_app s x ho hown hs hx hr hn hbase fun v' w' h1 h2 => hK _ _ (h v' w' h1 h2)

/-- at a step of a region that draws its order -/
theorem step_app {w W0 : World} {ops : Array Oper} {o : Oper} {a : Act} {K : Act → World → Prop} {Q : Exit → Act → World → Prop} {E : Prop} (hw : Region.wanted o (yielded ops a.tmps) = true) (s x : Operand)
    (ho : o.op = .call { callee := .builtin .append, args := #[s, x], argTypes := #[22, 22] })
    {B0 base n : Nat} {v : Value} {xs : List UInt8} (hown : w.ownsRow base 5 1 v n (bv xs)) (hb : Below B0 W0 w) (hs : a.eval s = v)
    {A : Option Addr} {m c B : Nat} {ys : List UInt8} (hx : a.eval x = .slice A m c) (hr : Rd w B A m (bv ys))
    (hn : n + m ≤ 1099511627776) (hB : B0 ≤ base) (hbase : base ≤ w.heap.size)
    (h : ∀ A' c' w', w'.ownsRow base 5 1 (.slice A' (n + m) c') (n + m) (bv (xs ++ ys)) → Below B0 W0 w' → K (a.put o.dst (.slice A' (n + m) c')) w') :
    if Region.wanted o (yielded ops a.tmps) = true then Oper.wp Try.prog o a w K Q else E := by
  rw [if_pos hw]
  refine wp_app s x ho hown hs hx hr hn hbase fun v' w' h1 h2 => ?_
  obtain ⟨A', c', rfl⟩ := own_shape h1
  exact h A' c' w' h1 (hb.grown h2 (by omega) (fun k hk => by have := own_block_ge hown k hk; omega))

/-- the same; what was there is told by the row alone -/
theorem step_app_g {w : World} {ops : Array Oper} {o : Oper} {a : Act} {K : Act → World → Prop} {Q : Exit → Act → World → Prop} {E : Prop} (hw : Region.wanted o (yielded ops a.tmps) = true) (s x : Operand)
    (ho : o.op = .call { callee := .builtin .append, args := #[s, x], argTypes := #[22, 22] })
    {base n : Nat} {v : Value} {xs : List UInt8} (hown : w.ownsRow base 5 1 v n (bv xs)) (hs : a.eval s = v)
    {A : Option Addr} {m c B : Nat} {ys : List UInt8} (hx : a.eval x = .slice A m c) (hr : Rd w B A m (bv ys))
    (hn : n + m ≤ 1099511627776) (hbase : base ≤ w.heap.size)
    (h : ∀ A' c' w', w'.ownsRow base 5 1 (.slice A' (n + m) c') (n + m) (bv (xs ++ ys)) → w.grownBy w' v.ownBlock → K (a.put o.dst (.slice A' (n + m) c')) w') :
    if Region.wanted o (yielded ops a.tmps) = true then Oper.wp Try.prog o a w K Q else E := by
  rw [if_pos hw]
  refine wp_app s x ho hown hs hx hr hn hbase fun v' w' h1 h2 => ?_
  obtain ⟨A', c', rfl⟩ := own_shape h1
  exact h A' c' w' h1 h2

/-- the same, told in terms of an earlier world W0: what was there below B0 is as it was -/
theorem app_on {w W0 : World} {ops : Array Oper} {rest : List Oper} {o : Oper} {a : Act} {Q : Exit → Act → World → Prop} (hw : Region.wanted o (yielded ops a.tmps) = true) (s x : Operand)
    (ho : o.op = .call { callee := .builtin .append, args := #[s, x], argTypes := #[22, 22] })
    {B0 base n : Nat} {v : Value} {xs : List UInt8} (hown : w.ownsRow base 5 1 v n (bv xs)) (hb : Below B0 W0 w) (hs : a.eval s = v)
    {A : Option Addr} {m c B : Nat} {ys : List UInt8} (hx : a.eval x = .slice A m c) (hr : Rd w B A m (bv ys))
    (hn : n + m ≤ 1099511627776) (hB : B0 ≤ base) (hbase : base ≤ w.heap.size)
    (h : ∀ A' c' w', w'.ownsRow base 5 1 (.slice A' (n + m) c') (n + m) (bv (xs ++ ys)) → Below B0 W0 w' → wpList Try.prog ops Q rest (a.put o.dst (.slice A' (n + m) c')) w') :
    wpList Try.prog ops Q (o :: rest) a w := by
  refine app_slice hw s x ho hown hs hx hr hn hbase fun v' w' h1 h2 => ?_
  obtain ⟨A', c', rfl⟩ := own_shape h1
  exact h A' c' w' h1 (hb.grown h2 (by omega) (fun k hk => by have := own_block_ge hown k hk; omega))

/-- bytes are appended to a new empty row: a copy in new memory -/
theorem app_new {W : World} {ops : Array Oper} {rest : List Oper} {o : Oper} {a : Act} {Q : Exit → Act → World → Prop} (hw : Region.wanted o (yielded ops a.tmps) = true) (s x : Operand)
    (ho : o.op = .call { callee := .builtin .append, args := #[s, x], argTypes := #[22, 22] })
    {g : Nat} (hg : g = W.heap.size) (hs : a.eval s = .slice (some ⟨g, 0, none⟩) 0 0)
    {A : Option Addr} {m c B : Nat} {ys : List UInt8} (hx : a.eval x = .slice A m c) (hr : Rd W B A m (bv ys)) (hn : m ≤ 1099511627776) (hB : B ≤ W.heap.size)
    (h : ∀ A' c' w', w'.ownsRow W.heap.size 5 1 (.slice A' m c') m (bv ys) → Below W.heap.size W w' → wpList Try.prog ops Q rest (a.put o.dst (.slice A' m c')) w') :
    wpList Try.prog ops Q (o :: rest) a (W.alloc (.cells #[] 5)) := by
  refine app_on hw s x ho (own_lit W W.heap.size 0 [] #[] rfl rfl (by omega) (Nat.le_refl _) hg) (W0 := W) ((Below.refl W.heap.size W).alloc (Nat.le_refl _) _) hs hx (hr.below ((Below.refl B W).alloc hB _)) (by omega) (Nat.le_refl _) (by simp) fun A' c' w' h1 h2 => ?_
  rw [Nat.zero_add] at h1 ⊢
  exact h A' c' w' h1 h2

/-- one byte is appended to a row of the call's own -/
theorem app_byte {w w0 : World} {ops : Array Oper} {rest : List Oper} {o : Oper} {a : Act} {Q : Exit → Act → World → Prop} (hgd : o.guard = none) (s x : Operand)
    (ho : o.op = .call { callee := .builtin .append, args := #[s, x], argTypes := #[22, 22] })
    {B0 base n : Nat} {v : Value} {xs : List UInt8} (hown : w.ownsRow base 5 1 v n (bv xs)) (hs : a.eval s = v)
    {g c : Nat} {y : Int} (hx : a.eval x = .slice (some ⟨g, 0, none⟩) 1 c) (hcell : w.cell? ⟨g, 0, none⟩ = some (.int .u8 y)) (hy1 : 0 ≤ y) (hy2 : y ≤ 255)
    (hn : n ≤ 1099511627776) (hb : Below B0 w0 w) (hB : B0 ≤ base) (hbase : base ≤ w.heap.size)
    (h : ∀ v' w', w'.ownsRow base 5 1 v' (n + 1) (bv (xs ++ [UInt8.ofNat y.toNat])) → Below B0 w0 w' → w.grownBy w' v.ownBlock → wpList Try.prog ops Q rest (a.put o.dst v') w') :
    wpList Try.prog ops Q (o :: rest) a w := by
  obtain ⟨i0, hi, hz0, hz1, hz2⟩ := info_parts Try.info5
  refine wpList_append_own _ hgd s x 22 ho base 5 i0 (.int .u8 0) 1 1 Try.underlying22 hi hz0 hz1 hz2 rfl (by decide) v n (bv xs) hs hown ⟨g, 0, none⟩ 1 c [.int .u8 y] hx rfl ?_ ?_ (by unfold maxLen; omega) (by omega) hbase ?_
  · intro j u hj
    match j, hj with
    | 0, hj => simp at hj; subst hj; simpa [Addr.add] using hcell
  · intro u hu; simp at hu; subst hu; rfl
  · intro v' w' hown' hgrow _
    refine h v' w' ?_ (hb.grown hgrow (by omega) (fun k hk => by have := own_block_ge hown k hk; omega)) hgrow
    rw [bv_append]
    have e : bv [UInt8.ofNat y.toNat] = [.int .u8 y] := by
      simp [bv, bval]
      omega
    rw [e]
    exact hown'
end Go.Proofs.Ytnnpijjdjdnffab
