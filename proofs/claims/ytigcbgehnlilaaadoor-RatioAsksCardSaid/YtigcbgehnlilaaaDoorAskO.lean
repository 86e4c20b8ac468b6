
/- Steps of operations in a region (XMemo), those of XOps that merge.py's shaking had left out for another law (RatioAsks). They speak of no function. -/
import Derived.Test.YtigcbgehnlilaaaDoorOps
namespace Go.Proofs.YtigcbgehnlilaaaDoor
open Go.ChangeShapes Go.WideShapes Go.ChangeAt Go.RowKit
set_option linter.unusedVariables false
set_option linter.unusedSimpArgs false
section
variable {a : Act} {w w0 : World} {af : Array Edge} {pos : String} {t : TypeId} {gd : Option (Nat × Bool)}
theorem c_eql_tt {s s' d T : Nat} {k : IntKind} {x y : Int} {b : Bool} (h : a.tmps[s]? = some (.int k x)) (h' : a.tmps[s']? = some (.int k y)) (hT : Tryd.prog.underlying T = some (.int k)) (hb : (x == y) = b) : Step Tryd.prog w0 { dst := some d, op := .binOp .eql T (.tmp s) (.tmp s') T, type := t, pos := pos, after := af, guard := gd } (.val (.bool b)) a w :=
  .inl (by subst hb; simp [go_sem, execOp, hT, bne, h, h'])
theorem c_neq_tt {s s' d T : Nat} {k : IntKind} {x y : Int} {b : Bool} (h : a.tmps[s]? = some (.int k x)) (h' : a.tmps[s']? = some (.int k y)) (hT : Tryd.prog.underlying T = some (.int k)) (hb : (!(x == y)) = b) : Step Tryd.prog w0 { dst := some d, op := .binOp .neq T (.tmp s) (.tmp s') T, type := t, pos := pos, after := af, guard := gd } (.val (.bool b)) a w :=
  .inl (by subst hb; simp [go_sem, execOp, hT, bne, h, h'])
theorem e_neq_W {s s' d : Nat} {v0 v1 v2 v3 u0 u1 u2 u3 : Value} {b : Bool} (h : a.tmps[s]? = some (.agg #[v0, v1, v2, v3])) (h' : a.tmps[s']? = some (.agg #[u0, u1, u2, u3])) (E : ∀ w, (Op.equalIn 10000 24 (.agg #[v0, v1, v2, v3]) (.agg #[u0, u1, u2, u3])).run Tryd.prog w = .ok b w) : Step Tryd.prog w0 { dst := some d, op := .binOp .neq 24 (.tmp s) (.tmp s') 24, type := t, pos := pos, after := af, guard := gd } (.val (.bool (!b))) a w :=
  .inl (by simp [go_sem, execOp, h, h', E])
end
end Go.Proofs.YtigcbgehnlilaaaDoor
