import Derived.Test.YtlhgbpgikgkecaaR5
import Derived.ChangeArms
import Derived.OpenShut
namespace Go.Proofs.Ytlhgbpgikgkecaa
open Go.RowKit

/-! A function that answers data: what it made turns no more. -/
def DoneD (P : Program) (fn : Func) (r : AV) : Post := fun e tm hp _ => match e with
  | .normal | .ret => ∃ xs, resL P hp tm fn.results.toList = some xs ∧ packA (xs.map (nrm (lk hp))) = r
  | _ => False
section
variable {P : Program} {w : World} {Z : Nat → Prop} {L : Nat → Blk} {s : Nat → Value} {F : Nat → Prop} {W0 : Ent}

/-- an answer that turns no more -/
def dataA (L : Nat → Blk) : AV → AV
  | .tup xs => .tup (xs.map (nrm L))
  | r => nrm L r
def tops : AV → List AV
  | .tup xs => xs
  | r => [r]
def dataOf (g : PC) : PC := fun args => match g args with
  | some (c, r, bs) => some (c, dataA (lk (hpAt 0 bs)) r, [])
  | none => none
end
end Go.Proofs.Ytlhgbpgikgkecaa

namespace Go.Proofs.Ytlhgbpgikgkecaa
open Go.RowKit

/-! A function that is lent variables by pointer and answers data. -/
def DoneL (P : Program) (fn : Func) (r : AV) (B1 : List Blk) : Post := fun e tm hp _ => match e with
  | .normal | .ret => ∃ xs, resL P hp tm fn.results.toList = some xs ∧ packA (xs.map (nrm (lk hp))) = r ∧ (List.range B1.length).map (lk hp) = B1
  | _ => False
section
variable {P : Program} {w : World} {Z : Nat → Prop} {L : Nat → Blk} {s : Nat → Value} {F : Nat → Prop} {W0 : Ent}

/-- some variables that hold no blocks, alone -/
theorem HR.only (h : HR F W0 w L s Z) {L' : Nat → Blk} (hh : ∀ r, L' r = .none ∨ (L' r = L r ∧ ∃ T cs, L r = .var T cs ∧ AV.ids.idsL cs = [])) : HR F W0 w L' s Z := by
  have lv : ∀ r, (L' r).live → (L r).live := fun r hr => by
    rcases hh r with e | ⟨e, _⟩
    · rw [e] at hr; exact hr.elim
    · rw [← e]; exact hr
  have lf : ∀ r g, (L' r).live → Fp w (L' r) (s r) g → Fp w (L r) (s r) g := fun r g hr hg => by
    rcases hh r with e | ⟨e, _⟩
    · rw [e] at hr; exact hr.elim
    · rw [← e]; exact hg
  refine ⟨fun r => ?_, fun r r' g l1 l2 g1 g2 => h.sepF r r' g (lv r l1) (lv r' l2) (lf r g l1 g1) (lf r' g l2 g2), fun r g l1 g1 => h.nzF r g (lv r l1) (lf r g l1 g1), fun r g l1 g1 => h.mineF r g (lv r l1) (lf r g l1 g1), h.zin, h.kept, h.zsrc, h.zhas⟩
  rcases hh r with e | ⟨e, T, cs, e2, hi⟩
  · rw [e]; trivial
  · rw [e]
    have := h.blk r
    rw [e2] at this ⊢
    obtain ⟨g, vs, h1, h2, h3, h4⟩ := this
    refine ⟨g, vs, h1, h2, h3, fun i x y hx hy => ⟨(h4 i x y hx hy).1.noids ?_, (h4 i x y hx hy).2⟩⟩
    rw [List.eq_nil_iff_forall_not_mem]
    intro k hk
    have : k ∈ AV.ids.idsL cs := (memL _ _).2 ⟨x, List.mem_of_getElem? hx, hk⟩
    rw [hi] at this
    cases this

end
end Go.Proofs.Ytlhgbpgikgkecaa

namespace Go.Proofs.Ytlhgbpgikgkecaa
open Go.RowKit

/-! What is handed in, of whatever plain type: it reads as data of its kind. -/
inductive KD where
  | int (k : IntKind)
  | bool
  | str
  | sl (row : List KD)
inductive WT : KD → D → Prop
  | int (k : IntKind) (n : Int) (h : (Lit.int k n).wf = true) : WT (.int k) (.v (.int k n))
  | bool (b : Bool) : WT .bool (.v (.bool b))
  | str (x : ByteArray) : WT .str (.v (.string x))
  | sl (row : List KD) (rows : List (List D)) (hn : rows.length ≤ maxLen) (hl : ∀ r ∈ rows, r.length = row.length) (h : ∀ i j k d, row[j]? = some k → rowAt rows i j = some d → WT k d) : WT (.sl row) (.l row.length rows)
def kindsF (P : Program) (g : TypeId → Option (List KD)) : Nat → List Field → Option (List KD)
  | _, [] => some []
  | off, f :: fs => if f.offset = off then match g f.type with
      | some ks => if ks.length = P.cellsOf f.type then match kindsF P g (off + ks.length) fs with
        | some r => some (ks ++ r)
        | none => none else none
      | none => none
    else none
def kinds (P : Program) : Nat → TypeId → Option (List KD)
  | 0, _ => none
  | n + 1, t => match P.underlying t with
    | some (.int k) => some [.int k]
    | some .bool => some [.bool]
    | some .string => some [.str]
    | some (.slice e) => match kinds P n e with
      | some row => if row.length = P.cellsOf e ∧ 0 < row.length then some [.sl row] else none
      | none => none
    | some (.struct fs) => match kindsF P (kinds P n) 0 fs.toList with
      | some ks => if ks.length = P.cellsOf t then some ks else none
      | none => none
    | _ => none
section
variable {P : Program} {w : World} {H : Type} {enc : TypeId × Value → H} {spare : Nat → Bool} {held : Bool}

/-- cells that read as data of kinds -/
structure Reads (w : World) (ks : List KD) (ds : List D) (cs : List Value) : Prop where
  dl : ds.length = ks.length
  cl : cs.length = ks.length
  wt : ∀ (j : Nat) k d, ks[j]? = some k → ds[j]? = some d → WT k d
  rep : ∀ (j : Nat) d c, ds[j]? = some d → cs[j]? = some c → Rep w (Zold w) d c
theorem Reads.one {k : KD} {d : D} {c : Value} (h : WT k d) (hr : Rep w (Zold w) d c) : Reads w [k] [d] [c] :=
  ⟨rfl, rfl, fun j k' d' h1 h2 => by
    cases j with
    | zero => simp at h1 h2; subst h1; subst h2; exact h
    | succ j => simp at h1, fun j d' c' h1 h2 => by
    cases j with
    | zero => simp at h1 h2; subst h1; subst h2; exact hr
    | succ j => simp at h1⟩

end
end Go.Proofs.Ytlhgbpgikgkecaa
