
/- The contract of Next. Conditions: at most 30,000 vertices, and edges. -/
import Derived.Test.YthakafnecddliaaSpnE
namespace Go.Proofs.Ythakafnecddliaa.Pl
open Go.ChangeShapes Go.WideShapes Go.ChangeAt Go.RowKit Go.Proofs.Ythakafnecddliaa.Mp
set_option linter.unusedVariables false
set_option linter.unusedSimpArgs false

theorem zero_half (w : World) : (zeroValue 42).run Try.prog w = .ok (hV (0, false)) w := by kernel_rfl
noncomputable def nxE (vs : List Vx) (es : List Eg) (h : Hf) : Hf := if h ∈ hfs (pes vs es) then nx (pvs vs es) (pes vs es) h else (0, false)
section
variable {v e : Value} {vs : List Vx} {es : List Eg} {w : World}
end
end Go.Proofs.Ythakafnecddliaa.Pl