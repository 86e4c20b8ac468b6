
/- Directions against the document's order. No condition but those that each theorem names. -/
import Derived.Test.YtlifghecgpibfaaGeoGr
import Derived.Test.YtlifghecgpibfaaGeoR
namespace Go.Proofs.Ytlifghecgpibfaa
open Go.ChangeShapes Go.WideShapes Go.ChangeAt Go.RowKit
set_option linter.unusedVariables false
set_option linter.unusedSimpArgs false

theorem rd_ref {o1 o2 a1 a2 b1 b2 : Int} (h : in3 o1 o2 a1 a2 b1 b2 = true) (ha : decide (a1 = o1 ∧ a2 = o2) = false) (hb : decide (b1 = o1 ∧ b2 = o2) = false) : rdV o1 o2 a1 a2 b1 b2 = rndR o1 o2 a1 a2 b1 b2 :=
  (rd_in h ha hb).trans (rnd_eq (of_decide_eq_false ha) (of_decide_eq_false hb))
end Go.Proofs.Ytlifghecgpibfaa
