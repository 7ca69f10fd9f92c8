import Derived.Test.YtegffkmakkccaaaXa
namespace Go.Proofs.Ytegffkmakkccaaa
open Go.RowKit
set_option linter.unusedSimpArgs false
set_option linter.unusedVariables false
def pk0 : Pk := ⟨0, 0, 0, 0, 0, 0, false, false, []⟩
def same4 (x y : Pk) : Bool := decide (x.f = y.f ∧ x.t = y.t ∧ x.p = y.p ∧ x.i = y.i)
def Pk.z (x : Pk) : Int := x.a + (x.d.length : Int)
def follows (x y : Pk) : Bool := same4 x y && x.m && decide (x.z ≤ y.a)
def g_follows : PC := fun args => match args with
  | [.agg [.v (.int .i64 f), .v (.int .i64 t), .v (.int .i64 p), .v (.int .i64 h), .v (.int .i64 i), .v (.int .i64 a), .v (.bool m), .v (.bool u), .l _ rows], .agg [.v (.int .i64 f'), .v (.int .i64 t'), .v (.int .i64 p'), .v (.int .i64 h'), .v (.int .i64 i'), .v (.int .i64 a'), .v (.bool m'), .v (.bool u'), .l _ rows']] => some ((0 ≤ a ∧ a ≤ 1048576) ∧ rows.length ≤ 1048576, .v (.bool (same4 ⟨f, t, p, h, i, a, m, u, bytesOfRows rows⟩ ⟨f', t', p', h', i', a', m', u', bytesOfRows rows'⟩ && m && decide (a + (rows.length : Int) ≤ a'))), [])
  | _ => none
def pos : List (FuncId × Abs) := [(19, pureAbs g_packetOk), (153, pureAbs g_follows)]
end Go.Proofs.Ytegffkmakkccaaa
