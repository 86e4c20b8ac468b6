
/- Steps of operations in a region (XMemo), those of XOps that merge.py's shaking had left out for another law (RatioProducts, RatioSums). They speak of no function. -/
import Derived.Test.YtjmojddnedngaaaDoorOps
namespace Go.Proofs.YtjmojddnedngaaaDoor
open Go.ChangeShapes Go.WideShapes Go.ChangeAt Go.RowKit
set_option linter.unusedVariables false
set_option linter.unusedSimpArgs false
section
variable {a : Act} {w w0 : World} {af : Array Edge} {pos : String} {t : TypeId} {gd : Option (Nat × Bool)}
theorem cl_ktt {f d : Nat} {r0 r1 r2 s1 s2 : Nat} {u : Value} {v0 v1 v2 : Value} (E : ∀ args w, (callFunc f args).run Tryd.prog w = .ok (.enter f args) w) (h1 : a.tmps[s1]? = some v1) (h2 : a.tmps[s2]? = some v2) (hc : Calls Tryd.prog f #[v0, v1, v2] w fun e w' => e = .returned u ∧ Below w.heap.size w w') : Step Tryd.prog w0 { dst := some d, op := .call { callee := .value (.func f), args := #[.const v0, .tmp s1, .tmp s2], argTypes := #[r0, r1, r2] }, type := t, pos := pos, after := af, guard := gd } (.val u) a w :=
  .inr ⟨f, _, by simp [go_sem, execOp, h1, h2]; exact E _ _, hc⟩
end
end Go.Proofs.YtjmojddnedngaaaDoor
