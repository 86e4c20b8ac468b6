
/- The contract of wide.Above. Conditions: numbers that a wide.Int can be. -/
import Derived.Test.YtigcbgehnlilaaaDoorWideJ
import Derived.Test.YtigcbgehnlilaaaDoorWideQ
import Derived.Deep.QuietTactic
namespace Go.Proofs.YtigcbgehnlilaaaDoor
open Go.ChangeShapes Go.WideShapes Go.ChangeAt Go.RowKit
set_option linter.unusedVariables false

theorem cmp_range (p q : Int) : -1 ≤ cmpZ p q ∧ cmpZ p q ≤ 1 := by unfold cmpZ; repeat' split
                                                                   all_goals omega

end Go.Proofs.YtigcbgehnlilaaaDoor
