import Derived.Test.YtnlhfjdkhkmaeaaLa
set_option linter.unusedVariables false
set_option linter.unusedSimpArgs false
namespace Go.Proofs.Ytnlhfjdkhkmaeaa
open Go.RowKit
structure Rg where
  f : Int
  t : Int
def rgRow (e : Rg) : List D := [.v (.int .i64 e.f), .v (.int .i64 e.t)]
def rgRows (l : List Rg) : List (List D) := l.map rgRow
def rgOf (r : List D) : Rg := ⟨(r.getD 0 (.v undef)).toI, (r.getD 1 (.v undef)).toI⟩
def rgsOf (rows : List (List D)) : List Rg := rows.map rgOf
theorem rgsOf_rows (l : List Rg) : rgsOf (rgRows l) = l := by
  simp only [rgsOf, rgRows, List.map_map]
  conv => rhs; rw [← List.map_id l]
  exact List.map_congr_left fun e _ => rfl
theorem rgRows_len (l : List Rg) : (rgRows l).length = l.length := by simp [rgRows]
theorem rgRows_w (l : List Rg) : ∀ r ∈ rgRows l, r.length = 2 := fun r hr => by
  obtain ⟨e, _, rfl⟩ := List.mem_map.1 hr
  rfl
theorem rgRows_get (l : List Rg) (k : Nat) (h : k < l.length) : (rgRows l).getD k [] = [.v (.int .i64 l[k].f), .v (.int .i64 l[k].t)] := by
  simp [rgRows, List.getD, h, rgRow]
theorem rgRows_flat (l : List Rg) : ∀ r ∈ rgRows l, ∀ d ∈ r, ∃ x, d = .v x := fun r hr d hd => by
  obtain ⟨e, _, rfl⟩ := List.mem_map.1 hr
  simp only [rgRow, List.mem_cons, List.not_mem_nil, or_false] at hd
  rcases hd with rfl | rfl <;> exact ⟨_, rfl⟩
theorem rgRows_app (a b : List Rg) : rgRows a ++ rgRows b = rgRows (a ++ b) := by simp [rgRows]
structure Sg where
  f : Int
  t : Int
  sq : Int
  ak : Int
  rm : Int
  fi : Bool
  he : Bool
  la : Bool
  re : Bool
  rs : List Rg
  d : List UInt8
def sg0 : Sg := ⟨0, 0, 0, 0, 0, false, false, false, false, [], []⟩
def rgB (r : Rg) : Bool := inZ r.f 0 65535 && inZ r.t 0 65535
def sgK (f t sq ak rm : Int) (fi he la re : Bool) (rs : List Rg) (n : Nat) : Bool :=
  inZ f 1 255 && inZ t 1 255 && inZ sq 0 65535 && inZ ak 0 65535 && inZ rm 0 255 && decide (rs.length ≤ 2) && decide (n ≤ 12) && rs.all rgB &&
    (he || (decide (ak = 0) && decide (rm = 0) && decide (rs.length = 0))) && (!re || (!fi && !la && decide (n = 0)))
def sgB (s : Sg) : Bool := sgK s.f s.t s.sq s.ak s.rm s.fi s.he s.la s.re s.rs s.d.length
def bI (b : Bool) (n : Int) : Int := if b = true then n else 0
def mkI (fi he la re : Bool) : Int := bI fi 1 + bI he 2 + bI la 4 + bI re 8
def rgX (r : Rg) : List UInt8 := bytesOf r.f 2 ++ bytesOf r.t 2
def rgsX (rs : List Rg) : List UInt8 := rs.flatMap rgX
def sgX (s : Sg) : List UInt8 := [toU8 s.f, toU8 s.t] ++ bytesOf s.sq 2 ++ bytesOf s.ak 2 ++ [toU8 s.rm, toU8 (mkI s.fi s.he s.la s.re), toU8 (s.rs.length : Int)] ++ rgsX s.rs ++ [toU8 (s.d.length : Int)] ++ s.d
def sgO (s : Sg) (a t : Int) : Bool := sgB s && inZ a 0 65535 && inZ t 0 65535
def sgV (s : Sg) (a t : Int) : List UInt8 := if sgO s a t = true then sgX s ++ bytesOf (mlS a t (sgX s)) 2 else []
def longV (s : Sg) : Int := (s.d.length : Int) + bI s.fi 1 + bI s.la 1
def bAt (b : List UInt8) (k : Nat) : Int := ((b.getD k 0).toNat : Int)
def nR (b : List UInt8) : Nat := (b.getD 8 0).toNat
def rgR (b : List UInt8) (k : Nat) : Rg := ⟨numAt b ((9 + 4 * k : Nat) : Int) 2, numAt b ((11 + 4 * k : Nat) : Int) 2⟩
def sfM (b : List UInt8) : Sg :=
  ⟨bAt b 0, bAt b 1, numAt b 2 2, numAt b 4 2, bAt b 6, decide (bAt b 7 % 2 = 1), decide (bAt b 7 / 2 % 2 = 1), decide (bAt b 7 / 4 % 2 = 1), decide (bAt b 7 / 8 = 1),
    (List.range (nR b)).map (rgR b), (b.drop (10 + 4 * nR b)).take (b.length - 12 - 4 * nR b)⟩
def sfOk (b : List UInt8) (a t : Int) : Bool :=
  decide (12 ≤ b.length) && inZ a 0 65535 && inZ t 0 65535 && decide ((b.getD 7 0).toNat ≤ 15) && decide (nR b ≤ 2) && decide (12 + 4 * nR b ≤ b.length) &&
    decide ((b.getD (9 + 4 * nR b) 0).toNat = (sfM b).d.length) && sgB (sfM b) && decide (numAt b ((b.length - 2 : Nat) : Int) 2 = mlS a t (b.take (b.length - 2)))
theorem rgB_iff {r : Rg} : rgB r = true ↔ (0 ≤ r.f ∧ r.f ≤ 65535) ∧ 0 ≤ r.t ∧ r.t ≤ 65535 := by
  simp only [rgB, inZ, Bool.and_eq_true, decide_eq_true_eq]
theorem sgB_iff {s : Sg} : sgB s = true ↔ (1 ≤ s.f ∧ s.f ≤ 255) ∧ (1 ≤ s.t ∧ s.t ≤ 255) ∧ (0 ≤ s.sq ∧ s.sq ≤ 65535) ∧ (0 ≤ s.ak ∧ s.ak ≤ 65535) ∧ (0 ≤ s.rm ∧ s.rm ≤ 255) ∧ s.rs.length ≤ 2 ∧ s.d.length ≤ 12 ∧ (∀ r ∈ s.rs, rgB r = true) ∧
    (s.he = false → s.ak = 0 ∧ s.rm = 0 ∧ s.rs = []) ∧ (s.re = true → s.fi = false ∧ s.la = false ∧ s.d = []) := by
  simp only [sgB, sgK, inZ, Bool.and_eq_true, decide_eq_true_eq, List.all_eq_true, and_assoc, Bool.or_eq_true, Bool.not_eq_eq_eq_not, Bool.not_true, List.length_eq_zero_iff]
  cases s.he <;> cases s.re <;> simp
theorem mkI_bd (fi he la re : Bool) : 0 ≤ mkI fi he la re ∧ mkI fi he la re ≤ 15 := by
  cases fi <;> cases he <;> cases la <;> cases re <;> decide
theorem toU8_back (x : UInt8) : toU8 ((x.toNat : Nat) : Int) = x := by
  apply UInt8.toNat_inj.1
  have := toU8_val' (v := (x.toNat : Int)) (by omega) (by have := x.toNat_lt; omega)
  omega
theorem two_at {s : Int} (h : 0 ≤ s ∧ s ≤ 65535) : ∃ x y : UInt8, bytesOf s 2 = [x, y] ∧ s = ((256 * x.toNat + y.toNat : Nat) : Int) := bytesOf_two s h.1 h.2
theorem rgX_two {r : Rg} (h : rgB r = true) : ∃ x y z w : UInt8, rgX r = [x, y, z, w] ∧ r.f = ((256 * x.toNat + y.toNat : Nat) : Int) ∧ r.t = ((256 * z.toNat + w.toNat : Nat) : Int) := by
  obtain ⟨h1, h2⟩ := rgB_iff.1 h
  obtain ⟨x, y, e1, e2⟩ := two_at h1
  obtain ⟨z, w, e3, e4⟩ := two_at h2
  exact ⟨x, y, z, w, by rw [rgX, e1, e3]; rfl, e2, e4⟩
theorem rgsX_len : ∀ {rs : List Rg}, (∀ r ∈ rs, rgB r = true) → (rgsX rs).length = 4 * rs.length
  | [], _ => rfl
  | r :: t, h => by
    obtain ⟨x, y, z, w, e, _⟩ := rgX_two (h r (List.mem_cons_self ..))
    rw [rgsX, List.flatMap_cons, List.length_append, e, ← rgsX, rgsX_len fun r hr => h r (List.mem_cons_of_mem _ hr)]
    simp only [List.length_cons, List.length_nil]
    omega
theorem sgX_len {s : Sg} (h : sgB s = true) : (sgX s).length = 10 + 4 * s.rs.length + s.d.length := by
  obtain ⟨_, _, h3, h4, _, _, _, h8, _⟩ := sgB_iff.1 h
  simp only [sgX, List.length_append, bytesOf_two_len h3, bytesOf_two_len h4, rgsX_len h8, List.length_cons, List.length_nil]
  omega
theorem sgV_len {s : Sg} {a t : Int} (h : sgO s a t = true) : (sgV s a t).length = 12 + 4 * s.rs.length + s.d.length := by
  have hb := h
  simp only [sgO, Bool.and_eq_true] at hb
  rw [sgV, if_pos h, List.length_append, sgX_len hb.1.1, bytesOf_two_len (mlS_bd _ _ _)]
  omega
theorem sgV_nil {s : Sg} {a t : Int} (h : sgO s a t = false) : sgV s a t = [] := if_neg (by rw [h]; decide)
theorem sgV_le (s : Sg) (a t : Int) : (sgV s a t).length ≤ 32 := by
  cases h : sgO s a t with
  | true =>
    rw [sgV_len h]
    simp only [sgO, Bool.and_eq_true] at h
    obtain ⟨_, _, _, _, _, h6, h7, _⟩ := sgB_iff.1 h.1.1
    omega
  | false => rw [sgV_nil h]; simp
theorem sgX_shape {s : Sg} (h : sgB s = true) : ∃ q1 q2 k1 k2 : UInt8, sgX s = toU8 s.f :: toU8 s.t :: q1 :: q2 :: k1 :: k2 :: toU8 s.rm :: toU8 (mkI s.fi s.he s.la s.re) :: toU8 (s.rs.length : Int) :: (rgsX s.rs ++ toU8 (s.d.length : Int) :: s.d) ∧
    s.sq = ((256 * q1.toNat + q2.toNat : Nat) : Int) ∧ s.ak = ((256 * k1.toNat + k2.toNat : Nat) : Int) := by
  obtain ⟨_, _, h3, h4, _⟩ := sgB_iff.1 h
  obtain ⟨q1, q2, e1, e2⟩ := two_at h3
  obtain ⟨k1, k2, e3, e4⟩ := two_at h4
  refine ⟨q1, q2, k1, k2, ?_, e2, e4⟩
  rw [sgX, e1, e3]
  simp
theorem numAt_of {b : List UInt8} {k : Nat} {x y : UInt8} (h0 : b[k]? = some x) (h1 : b[k + 1]? = some y) : numAt b (k : Int) 2 = ((256 * x.toNat + y.toNat : Nat) : Int) := by
  have hl : k + 1 < b.length := (List.getElem?_eq_some_iff.1 h1).1
  rw [numAt_two b _ k rfl (by omega), List.getD_eq_getElem?_getD, List.getD_eq_getElem?_getD, h0, h1]
  rfl
theorem flags_back (fi he la re : Bool) : (toU8 (mkI fi he la re)).toNat = (mkI fi he la re).toNat ∧ decide (mkI fi he la re % 2 = 1) = fi ∧ decide (mkI fi he la re / 2 % 2 = 1) = he ∧ decide (mkI fi he la re / 4 % 2 = 1) = la ∧ decide (mkI fi he la re / 8 = 1) = re := by
  cases fi <;> cases he <;> cases la <;> cases re <;> decide
theorem sg_read {s : Sg} {a t : Int} (h : sgO s a t = true) : sfM (sgV s a t) = s ∧ (sgV s a t).take ((sgV s a t).length - 2) = sgX s ∧ numAt (sgV s a t) (((sgV s a t).length - 2 : Nat) : Int) 2 = mlS a t (sgX s) ∧
    ((sgV s a t).getD 7 0).toNat ≤ 15 ∧ nR (sgV s a t) = s.rs.length ∧ ((sgV s a t).getD (9 + 4 * s.rs.length) 0).toNat = s.d.length := by
  have hl := sgV_len h
  have hb := h
  simp only [sgO, Bool.and_eq_true] at hb
  have hsb := hb.1.1
  obtain ⟨h1, h2, h3, h4, h5, h6, h7, h8, h9, h10⟩ := sgB_iff.1 hsb
  obtain ⟨q1, q2, k1, k2, e, eq, ek⟩ := sgX_shape hsb
  have hs := mlS_bd a t (sgX s)
  have hxl := sgX_len hsb
  have eV : sgV s a t = sgX s ++ bytesOf (mlS a t (sgX s)) 2 := by rw [sgV, if_pos h]
  obtain ⟨c1, c2, ec, _⟩ := two_at hs
  have hx : (sgX s).length = (sgV s a t).length - 2 := by omega
  have eL : sgV s a t = toU8 s.f :: toU8 s.t :: q1 :: q2 :: k1 :: k2 :: toU8 s.rm :: toU8 (mkI s.fi s.he s.la s.re) :: toU8 (s.rs.length : Int) :: (rgsX s.rs ++ (toU8 (s.d.length : Int) :: (s.d ++ [c1, c2]))) := by
    rw [eV, ec, e]; simp
  have f1 : ((toU8 s.f).toNat : Int) = s.f := toU8_val' (by omega) (by omega)
  have f2 : ((toU8 s.t).toNat : Int) = s.t := toU8_val' (by omega) (by omega)
  have f3 : ((toU8 s.rm).toNat : Int) = s.rm := toU8_val' (by omega) (by omega)
  have f4 : ((toU8 (s.rs.length : Int)).toNat : Int) = (s.rs.length : Int) := toU8_val' (by omega) (by omega)
  have f5 : ((toU8 (s.d.length : Int)).toNat : Int) = (s.d.length : Int) := toU8_val' (by omega) (by omega)
  obtain ⟨g1, g2, g3, g4, g5⟩ := flags_back s.fi s.he s.la s.re
  have gm := mkI_bd s.fi s.he s.la s.re
  have eN : nR (sgV s a t) = s.rs.length := by
    rw [nR, eL]
    show (toU8 (s.rs.length : Int)).toNat = _
    omega
  have g7 : (sgV s a t).getD 7 0 = toU8 (mkI s.fi s.he s.la s.re) := by rw [eL]; rfl
  have g7' : bAt (sgV s a t) 7 = mkI s.fi s.he s.la s.re := by rw [bAt, g7, g1]; omega
  have eR : (List.range s.rs.length).map (rgR (sgV s a t)) = s.rs := by
    have hall : ∀ (r1 r2 : List Rg), s.rs = r1 ++ r2 → True := fun _ _ _ => trivial
    match hr : s.rs, h6, h8 with
    | [], _, _ => rfl
    | [r], _, h8 =>
      obtain ⟨x, y, z, w, ex, ef, et⟩ := rgX_two (h8 r (List.mem_cons_self ..))
      rw [hr] at eL
      have eX : rgsX [r] = [x, y, z, w] := by rw [rgsX, List.flatMap_cons, ex]; rfl
      rw [eX] at eL
      have n1 : numAt (sgV s a t) ((9 + 4 * 0 : Nat) : Int) 2 = r.f := by rw [eL, ef]; exact numAt_of rfl rfl
      have n2 : numAt (sgV s a t) ((11 + 4 * 0 : Nat) : Int) 2 = r.t := by rw [eL, et]; exact numAt_of rfl rfl
      show [rgR (sgV s a t) 0] = [r]
      rw [rgR, n1, n2]
    | [r, r'], _, h8 =>
      obtain ⟨x, y, z, w, ex, ef, et⟩ := rgX_two (h8 r (List.mem_cons_self ..))
      obtain ⟨x', y', z', w', ex', ef', et'⟩ := rgX_two (h8 r' (List.mem_cons_of_mem _ (List.mem_cons_self ..)))
      rw [hr] at eL
      have eX : rgsX [r, r'] = [x, y, z, w, x', y', z', w'] := by rw [rgsX, List.flatMap_cons, List.flatMap_cons, ex, ex']; rfl
      rw [eX] at eL
      have n1 : numAt (sgV s a t) ((9 + 4 * 0 : Nat) : Int) 2 = r.f := by rw [eL, ef]; exact numAt_of rfl rfl
      have n2 : numAt (sgV s a t) ((11 + 4 * 0 : Nat) : Int) 2 = r.t := by rw [eL, et]; exact numAt_of rfl rfl
      have n3 : numAt (sgV s a t) ((9 + 4 * 1 : Nat) : Int) 2 = r'.f := by rw [eL, ef']; exact numAt_of rfl rfl
      have n4 : numAt (sgV s a t) ((11 + 4 * 1 : Nat) : Int) 2 = r'.t := by rw [eL, et']; exact numAt_of rfl rfl
      show [rgR (sgV s a t) 0, rgR (sgV s a t) 1] = [r, r']
      rw [rgR, rgR, n1, n2, n3, n4]
    | _ :: _ :: _ :: _, h, _ => simp only [List.length_cons] at h; omega
  have hrl := rgsX_len h8
  have eD : ((sgV s a t).drop (10 + 4 * s.rs.length)).take ((sgV s a t).length - 12 - 4 * s.rs.length) = s.d := by
    have e1 : (sgV s a t).length - 12 - 4 * s.rs.length = s.d.length := by omega
    rw [e1, eL, show 10 + 4 * s.rs.length = (rgsX s.rs).length + 1 + 1 + 1 + 1 + 1 + 1 + 1 + 1 + 1 + 1 by omega]
    simp only [List.drop_succ_cons]
    rw [← List.drop_drop, List.drop_left, List.drop_succ_cons, List.drop_zero, List.take_left]
  refine ⟨?_, ?_, ?_, ?_, eN, ?_⟩
  · have n1 : numAt (sgV s a t) 2 2 = s.sq := by rw [eL, eq]; exact numAt_of (k := 2) rfl rfl
    have n2 : numAt (sgV s a t) 4 2 = s.ak := by rw [eL, ek]; exact numAt_of (k := 4) rfl rfl
    have a0 : bAt (sgV s a t) 0 = s.f := by rw [eL]; exact f1
    have a1 : bAt (sgV s a t) 1 = s.t := by rw [eL]; exact f2
    have a6 : bAt (sgV s a t) 6 = s.rm := by rw [eL]; exact f3
    rw [sfM, n1, n2, a0, a1, a6, g7', g2, g3, g4, g5, eN, eR, eD]
  · rw [← hx, eV, List.take_left]
  · rw [← hx]
    conv => lhs; rw [eV]
    exact (numAt_bytesOf (sgX s) (mlS a t (sgX s)) 2 (by rw [bytesOf_two_len hs]; decide)).1
  · rw [g7, g1]; omega
  · rw [eL, List.getD_eq_getElem?_getD, show 9 + 4 * s.rs.length = (rgsX s.rs).length + 1 + 1 + 1 + 1 + 1 + 1 + 1 + 1 + 1 by omega]
    simp only [List.getElem?_cons_succ]
    rw [List.getElem?_append_right (by omega), Nat.sub_self]
    show (toU8 (s.d.length : Int)).toNat = _
    omega
theorem sfOk_of {s : Sg} {a t : Int} (h : sgO s a t = true) (a' t' : Int) : sfOk (sgV s a t) a' t' = (inZ a' 0 65535 && inZ t' 0 65535 && decide (mlS a t (sgX s) = mlS a' t' (sgX s))) := by
  obtain ⟨h1, h2, h3, h4, h5, h6⟩ := sg_read h
  have hl := sgV_len h
  have hb := h
  simp only [sgO, Bool.and_eq_true] at hb
  obtain ⟨_, _, _, _, _, h6', _⟩ := sgB_iff.1 hb.1.1
  rw [sfOk, h1, h2, h3, h5, h6, hb.1.1, decide_eq_true h4, decide_eq_true (show 12 ≤ (sgV s a t).length by omega), decide_eq_true h6', decide_eq_true (show 12 + 4 * s.rs.length ≤ (sgV s a t).length by omega), decide_eq_true rfl]
  cases inZ a' 0 65535 <;> cases inZ t' 0 65535 <;> simp
theorem sg_back {s : Sg} {a t : Int} (h : sgO s a t = true) : sfOk (sgV s a t) a t = true ∧ sfM (sgV s a t) = s ∧ sfOk (sgV s a t) (a + 1) t = false := by
  have hb := h
  simp only [sgO, Bool.and_eq_true] at hb
  have ha := inZ_iff.1 hb.1.2
  have ht := inZ_iff.1 hb.2
  refine ⟨by rw [sfOk_of h, hb.1.2, hb.2, decide_eq_true rfl]; rfl, (sg_read h).1, ?_⟩
  rw [sfOk_of h, hb.2]
  by_cases hz : a + 1 ≤ 65535
  · rw [decide_eq_false (Ne.symm (mlS_next ha ht (a' := a + 1) (t' := t) (by omega) ht (by omega) _)), Bool.and_false]
  · have : inZ (a + 1) 0 65535 = false := by rw [Bool.eq_false_iff]; intro h; have := inZ_iff.1 h; omega
    rw [this]; rfl
theorem two_back (b : List UInt8) (k : Nat) (x y : UInt8) (h0 : b[k]? = some x) (h1 : b[k + 1]? = some y) : bytesOf (numAt b (k : Int) 2) 2 = [x, y] := by
  have hl : k + 1 < b.length := (List.getElem?_eq_some_iff.1 h1).1
  have hn := numAt_of h0 h1
  have := (bytesOf_numAt b (k : Int) 2 (by rw [hn]; omega)).2.2.2.2
  rw [this, Int.toNat_natCast, show (2 : Int).toNat = 2 from rfl, List.drop_eq_getElem_cons (show k < b.length by omega), List.drop_eq_getElem_cons hl]
  obtain ⟨_, e0⟩ := List.getElem?_eq_some_iff.1 h0
  obtain ⟨_, e1⟩ := List.getElem?_eq_some_iff.1 h1
  rw [e0, e1]; rfl
theorem marks_back (x : UInt8) (h : x.toNat ≤ 15) : toU8 (mkI (decide (((x.toNat : Nat) : Int) % 2 = 1)) (decide (((x.toNat : Nat) : Int) / 2 % 2 = 1)) (decide (((x.toNat : Nat) : Int) / 4 % 2 = 1)) (decide (((x.toNat : Nat) : Int) / 8 = 1))) = x := by
  have : ∀ n : Fin 16, toU8 (mkI (decide ((n.val : Int) % 2 = 1)) (decide ((n.val : Int) / 2 % 2 = 1)) (decide ((n.val : Int) / 4 % 2 = 1)) (decide ((n.val : Int) / 8 = 1))) = UInt8.ofNat n.val := by decide +kernel
  have h2 := this ⟨x.toNat, by omega⟩
  rw [h2]
  simp
theorem sf_bytes {b : List UInt8} (hl : 12 ≤ b.length) (h7 : (b.getD 7 0).toNat ≤ 15) (hn : nR b ≤ 2) (hr : 12 + 4 * nR b ≤ b.length) (hd : (b.getD (9 + 4 * nR b) 0).toNat = (sfM b).d.length) : sgX (sfM b) = b.take (b.length - 2) := by
  obtain ⟨x0, x1, x2, x3, x4, x5, x6, x7, x8, r, rfl⟩ : ∃ x0 x1 x2 x3 x4 x5 x6 x7 x8 r, b = x0 :: x1 :: x2 :: x3 :: x4 :: x5 :: x6 :: x7 :: x8 :: r := by
    match b, hl with
    | x0 :: x1 :: x2 :: x3 :: x4 :: x5 :: x6 :: x7 :: x8 :: r, _ => exact ⟨_, _, _, _, _, _, _, _, _, _, rfl⟩
  obtain ⟨b, hb⟩ : ∃ b, b = x0 :: x1 :: x2 :: x3 :: x4 :: x5 :: x6 :: x7 :: x8 :: r := ⟨_, rfl⟩
  rw [← hb] at hl h7 hn hr hd ⊢
  have m7 : (b.getD 7 0) = x7 := by rw [hb]; rfl
  have m8 : nR b = x8.toNat := by rw [nR, hb]; rfl
  rw [m7] at h7
  have n2 : bytesOf (numAt b 2 2) 2 = [x2, x3] := two_back b 2 x2 x3 (by rw [hb]; rfl) (by rw [hb]; rfl)
  have n4 : bytesOf (numAt b 4 2) 2 = [x4, x5] := two_back b 4 x4 x5 (by rw [hb]; rfl) (by rw [hb]; rfl)
  have t0 : toU8 (bAt b 0) = x0 := by rw [hb]; exact toU8_back x0
  have t1 : toU8 (bAt b 1) = x1 := by rw [hb]; exact toU8_back x1
  have t6 : toU8 (bAt b 6) = x6 := by rw [hb]; exact toU8_back x6
  have b7 : bAt b 7 = ((x7.toNat : Nat) : Int) := by rw [hb]; rfl
  have t7 : toU8 (mkI (sfM b).fi (sfM b).he (sfM b).la (sfM b).re) = x7 := by
    show toU8 (mkI (decide (bAt b 7 % 2 = 1)) (decide (bAt b 7 / 2 % 2 = 1)) (decide (bAt b 7 / 4 % 2 = 1)) (decide (bAt b 7 / 8 = 1))) = x7
    rw [b7]; exact marks_back x7 h7
  have hrl : (sfM b).rs.length = nR b := by show ((List.range (nR b)).map (rgR b)).length = _; simp
  have t8 : toU8 (((sfM b).rs.length : Nat) : Int) = x8 := by rw [hrl, m8]; exact toU8_back x8
  have hrl2 : r.length = b.length - 9 := by rw [hb]; simp only [List.length_cons]; omega
  have hD : (sfM b).d = (r.drop (1 + 4 * nR b)).take (b.length - 12 - 4 * nR b) := by
    show (b.drop (10 + 4 * nR b)).take _ = _
    have e : ∀ m, b.drop (10 + 4 * m) = r.drop (1 + 4 * m) := fun m => by
      rw [hb, show 10 + 4 * m = (1 + 4 * m) + 1 + 1 + 1 + 1 + 1 + 1 + 1 + 1 + 1 by omega]
      simp only [List.drop_succ_cons]
    rw [e]
  have hg : b.getD (9 + 4 * nR b) 0 = r.getD (4 * nR b) 0 := by
    have e : ∀ m, b.getD (9 + 4 * m) 0 = r.getD (4 * m) 0 := fun m => by
      rw [hb, List.getD_eq_getElem?_getD, List.getD_eq_getElem?_getD, show 9 + 4 * m = 4 * m + 1 + 1 + 1 + 1 + 1 + 1 + 1 + 1 + 1 by omega]
      simp only [List.getElem?_cons_succ]
    exact e _
  have td : toU8 (((sfM b).d.length : Nat) : Int) = r.getD (4 * nR b) 0 := by rw [← hd, hg]; exact toU8_back _
  have hR : rgsX (sfM b).rs = r.take (4 * nR b) := by
    have h4 : 4 * nR b + 3 ≤ r.length := by omega
    show rgsX ((List.range (nR b)).map (rgR b)) = _
    have hc : nR b = 0 ∨ nR b = 1 ∨ nR b = 2 := by omega
    rcases hc with h | h | h
    · rw [h]; rfl
    · rw [h] at h4 ⊢
      match r, h4 with
      | a :: c :: e :: g :: r, _ =>
        have z0 : bytesOf (numAt b ((9 + 4 * 0 : Nat) : Int) 2) 2 = [a, c] := two_back b 9 a c (by rw [hb]; rfl) (by rw [hb]; rfl)
        have z1 : bytesOf (numAt b ((11 + 4 * 0 : Nat) : Int) 2) 2 = [e, g] := two_back b 11 e g (by rw [hb]; rfl) (by rw [hb]; rfl)
        show rgX (rgR b 0) ++ [] = _
        rw [rgX, rgR, z0, z1]; rfl
    · rw [h] at h4 ⊢
      match r, h4 with
      | a :: c :: e :: g :: a' :: c' :: e' :: g' :: r, _ =>
        have z0 : bytesOf (numAt b ((9 + 4 * 0 : Nat) : Int) 2) 2 = [a, c] := two_back b 9 a c (by rw [hb]; rfl) (by rw [hb]; rfl)
        have z1 : bytesOf (numAt b ((11 + 4 * 0 : Nat) : Int) 2) 2 = [e, g] := two_back b 11 e g (by rw [hb]; rfl) (by rw [hb]; rfl)
        have z2 : bytesOf (numAt b ((9 + 4 * 1 : Nat) : Int) 2) 2 = [a', c'] := two_back b 13 a' c' (by rw [hb]; rfl) (by rw [hb]; rfl)
        have z3 : bytesOf (numAt b ((11 + 4 * 1 : Nat) : Int) 2) 2 = [e', g'] := two_back b 15 e' g' (by rw [hb]; rfl) (by rw [hb]; rfl)
        show rgX (rgR b 0) ++ (rgX (rgR b 1) ++ []) = _
        rw [rgX, rgX, rgR, rgR, z0, z1, z2, z3]; rfl
  have hT : r.take (4 * nR b) ++ (r.getD (4 * nR b) 0 :: (r.drop (1 + 4 * nR b)).take (b.length - 12 - 4 * nR b)) = r.take (r.length - 2) := by
    have h4 : 4 * nR b < r.length := by omega
    have e1 : r.getD (4 * nR b) 0 = r[4 * nR b] := by rw [List.getD_eq_getElem?_getD, List.getElem?_eq_getElem h4]; rfl
    have e2 : r.getD (4 * nR b) 0 :: (r.drop (1 + 4 * nR b)).take (b.length - 12 - 4 * nR b) = (r.drop (4 * nR b)).take (b.length - 12 - 4 * nR b + 1) := by
      rw [List.drop_eq_getElem_cons h4, List.take_succ_cons, e1, Nat.add_comm 1]
    rw [e2]
    have e3 : r.length - 2 = 4 * nR b + (b.length - 12 - 4 * nR b + 1) := by omega
    rw [e3]
    exact (List.take_add ..).symm
  have hlast : b.take (b.length - 2) = x0 :: x1 :: x2 :: x3 :: x4 :: x5 :: x6 :: x7 :: x8 :: r.take (r.length - 2) := by
    have : b.length - 2 = (r.length - 2) + 1 + 1 + 1 + 1 + 1 + 1 + 1 + 1 + 1 := by omega
    have e : ∀ m, b.take (m + 1 + 1 + 1 + 1 + 1 + 1 + 1 + 1 + 1) = x0 :: x1 :: x2 :: x3 :: x4 :: x5 :: x6 :: x7 :: x8 :: r.take m := fun m => by
      rw [hb]
      simp only [List.take_succ_cons]
    rw [this, e]
  have e0 : sgX (sfM b) = [toU8 (bAt b 0), toU8 (bAt b 1)] ++ bytesOf (numAt b 2 2) 2 ++ bytesOf (numAt b 4 2) 2 ++ [toU8 (bAt b 6), toU8 (mkI (sfM b).fi (sfM b).he (sfM b).la (sfM b).re), toU8 (((sfM b).rs.length : Nat) : Int)] ++ rgsX (sfM b).rs ++ [toU8 (((sfM b).d.length : Nat) : Int)] ++ (sfM b).d := rfl
  rw [e0, t0, t1, t6, t7, t8, td, hR, n2, n4, hD, hlast, ← hT]
  simp
theorem sf_sent {b : List UInt8} {a t : Int} (h : sfOk b a t = true) : sgV (sfM b) a t = b := by
  simp only [sfOk, Bool.and_eq_true, decide_eq_true_eq] at h
  obtain ⟨⟨⟨⟨⟨⟨⟨⟨hl, ha⟩, ht⟩, h7⟩, hn⟩, hr⟩, hd⟩, hB⟩, hs⟩ := h
  have hX := sf_bytes hl h7 hn hr hd
  rw [sgV, if_pos (by rw [sgO, hB, ha, ht]; rfl), hX]
  have hv : bytesOf (numAt b ((b.length - 2 : Nat) : Int) 2) 2 = (b.drop (b.length - 2)).take 2 := by
    have h0 := mlS_bd a t (b.take (b.length - 2))
    have := (bytesOf_numAt b ((b.length - 2 : Nat) : Int) 2 (by rw [hs]; omega)).2.2.2.2
    rwa [Int.toNat_natCast] at this
  have h2 : (b.drop (b.length - 2)).take 2 = b.drop (b.length - 2) := List.take_of_length_le (by rw [List.length_drop]; omega)
  rw [← hs, hv, h2, List.take_append_drop]
theorem xorOne (x : UInt8) : (x ^^^ 1).toNat = x.toNat + 1 ∨ (x ^^^ 1).toNat + 1 = x.toNat := by
  have : ∀ x : Fin 256, ((UInt8.ofNat x.val) ^^^ 1).toNat = x.val + 1 ∨ ((UInt8.ofNat x.val) ^^^ 1).toNat + 1 = x.val := by decide +kernel
  have h := this ⟨x.toNat, x.toNat_lt⟩
  simpa using h
theorem pk_turn1 (xs : List UInt8) (k : Nat) (hk : k < xs.length) : pk (xs.set k (xs.getD k 0 ^^^ 1)) xs.length % 65535 ≠ pk xs xs.length % 65535 := by
  have h := pk_set xs k (xs.getD k 0 ^^^ 1) xs.length
  rw [if_pos ⟨hk, hk⟩, if_pos ⟨hk, hk⟩] at h
  have h2 : (xs.getD k 0 ^^^ 1).toNat = (xs.getD k 0).toNat + 1 ∨ (xs.getD k 0 ^^^ 1).toNat + 1 = (xs.getD k 0).toNat := xorOne _
  by_cases he : k % 2 = 0
  · rw [wt_even he, wt_even he] at h
    omega
  · rw [wt_odd (by omega), wt_odd (by omega)] at h
    omega
theorem sf_turn {b : List UInt8} {a t : Int} (h : sfOk b a t = true) {k : Nat} (hk : k < b.length) : sfOk (b.set k (b.getD k 0 ^^^ 1)) a t = false := by
  simp only [sfOk, Bool.and_eq_true, decide_eq_true_eq] at h
  obtain ⟨⟨⟨⟨⟨⟨⟨⟨h5, ha⟩, ht⟩, _⟩, _⟩, _⟩, _⟩, _⟩, hs⟩ := h
  have ha' := inZ_iff.1 ha
  have ht' := inZ_iff.1 ht
  rw [Bool.eq_false_iff]
  intro h'
  simp only [sfOk, Bool.and_eq_true, decide_eq_true_eq, List.length_set] at h'
  obtain ⟨_, hs'⟩ := h'
  have n1 := numAt_two b ((b.length - 2 : Nat) : Int) (b.length - 2) rfl (by omega)
  have n2 := numAt_two (b.set k (b.getD k 0 ^^^ 1)) ((b.length - 2 : Nat) : Int) (b.length - 2) rfl (by rw [List.length_set]; omega)
  rw [n1] at hs
  rw [n2] at hs'
  by_cases hkl : k < b.length - 2
  · have q1 : (b.set k (b.getD k 0 ^^^ 1)).getD (b.length - 2) 0 = b.getD (b.length - 2) 0 := by
      rw [List.getD_eq_getElem?_getD, List.getElem?_set_ne (by omega), ← List.getD_eq_getElem?_getD]
    have q2 : (b.set k (b.getD k 0 ^^^ 1)).getD (b.length - 2 + 1) 0 = b.getD (b.length - 2 + 1) 0 := by
      rw [List.getD_eq_getElem?_getD, List.getElem?_set_ne (by omega), ← List.getD_eq_getElem?_getD]
    rw [q1, q2, hs] at hs'
    have q3 : (b.set k (b.getD k 0 ^^^ 1)).take (b.length - 2) = (b.take (b.length - 2)).set k ((b.take (b.length - 2)).getD k 0 ^^^ 1) := by
      rw [List.take_set]
      congr 2
      rw [List.getD_eq_getElem?_getD, List.getD_eq_getElem?_getD, List.getElem?_take_of_lt hkl]
    rw [q3] at hs'
    have hlen : k < (b.take (b.length - 2)).length := by rw [List.length_take]; omega
    have p1 := mlS_pk ha' ht' (b.take (b.length - 2))
    have p2 := mlS_pk ha' ht' ((b.take (b.length - 2)).set k ((b.take (b.length - 2)).getD k 0 ^^^ 1))
    have p3 := pk_turn1 (b.take (b.length - 2)) k hlen
    rw [List.length_set] at p2
    rw [← hs'] at p2
    omega
  · have q3 : (b.set k (b.getD k 0 ^^^ 1)).take (b.length - 2) = b.take (b.length - 2) := List.take_set_of_le (by omega)
    rw [q3, ← hs] at hs'
    have hx := xorOne (b.getD k 0)
    have hkk : k = b.length - 2 ∨ k = b.length - 2 + 1 := by omega
    have g : (b.set k (b.getD k 0 ^^^ 1)).getD k 0 = b.getD k 0 ^^^ 1 := by
      rw [List.getD_eq_getElem?_getD, List.getElem?_set_self hk]; rfl
    rcases hkk with e | e
    · have q2 : (b.set k (b.getD k 0 ^^^ 1)).getD (b.length - 2 + 1) 0 = b.getD (b.length - 2 + 1) 0 := by
        rw [List.getD_eq_getElem?_getD, List.getElem?_set_ne (by omega), ← List.getD_eq_getElem?_getD]
      rw [q2, ← e, g] at hs'
      omega
    · have q2 : (b.set k (b.getD k 0 ^^^ 1)).getD (b.length - 2) 0 = b.getD (b.length - 2) 0 := by
        rw [List.getD_eq_getElem?_getD, List.getElem?_set_ne (by omega), ← List.getD_eq_getElem?_getD]
      rw [q2, ← e, g] at hs'
      omega
theorem sf_more {b : List UInt8} {a t : Int} (h : sfOk b a t = true) (x : UInt8) : sfOk (b ++ [x]) a t = false := by
  simp only [sfOk, Bool.and_eq_true, decide_eq_true_eq] at h
  obtain ⟨⟨⟨⟨⟨⟨⟨⟨hl, ha⟩, ht⟩, h7⟩, hn⟩, hr⟩, hd⟩, hB⟩, hs⟩ := h
  rw [Bool.eq_false_iff]
  intro h'
  simp only [sfOk, Bool.and_eq_true, decide_eq_true_eq] at h'
  obtain ⟨⟨⟨_, hd'⟩, _⟩, _⟩ := h'
  have e8 : nR (b ++ [x]) = nR b := by
    rw [nR, nR, List.getD_eq_getElem?_getD, List.getElem?_append_left (by omega), ← List.getD_eq_getElem?_getD]
  rw [e8, List.getD_eq_getElem?_getD, List.getElem?_append_left (by omega), ← List.getD_eq_getElem?_getD, hd] at hd'
  have l1 : (sfM b).d.length = b.length - 12 - 4 * nR b := by
    show ((b.drop (10 + 4 * nR b)).take (b.length - 12 - 4 * nR b)).length = _
    rw [List.length_take, List.length_drop]; omega
  have l2 : (sfM (b ++ [x])).d.length = b.length + 1 - 12 - 4 * nR b := by
    show (((b ++ [x]).drop (10 + 4 * nR (b ++ [x]))).take ((b ++ [x]).length - 12 - 4 * nR (b ++ [x]))).length = _
    rw [e8, List.length_take, List.length_drop, List.length_append, List.length_cons, List.length_nil]; omega
  omega
end Go.Proofs.Ytnlhfjdkhkmaeaa
