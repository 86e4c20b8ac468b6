
/- Inner points against the document's. No condition but those that each theorem names. -/
import Derived.Test.YtlifghecgpibfaaGeoGc
import Derived.Test.YtlifghecgpibfaaGeoF
namespace Go.Proofs.Ytlifghecgpibfaa
open Go.ChangeShapes Go.WideShapes Go.ChangeAt Go.RowKit
set_option linter.unusedVariables false
set_option linter.unusedSimpArgs false

theorem wiB_iff {p1 p2 a1 a2 b1 b2 : Int} : wiB p1 p2 a1 a2 b1 b2 = true ↔ InR p1 p2 a1 a2 b1 b2 := by
  unfold wiB InR bxB tn
  simp only [Bool.and_eq_true, Bool.or_eq_true, beq_iff_eq, sg_zero, decide_eq_true_eq, and_assoc]
theorem roB_iff {p1 p2 a1 a2 b1 b2 : Int} : roB p1 p2 a1 a2 b1 b2 = true ↔ OnR p1 p2 a1 a2 b1 b2 := by
  unfold roB OnR
  simp only [Bool.and_eq_true, wiB_iff, Bool.not_eq_true', decide_eq_false_iff_not, and_assoc]
theorem on_in {p1 p2 a1 a2 b1 b2 : Int} (h : in3 p1 p2 a1 a2 b1 b2 = true) : onB p1 p2 a1 a2 b1 b2 = roB p1 p2 a1 a2 b1 b2 :=
  bool_ext (by rw [onB_iff, roB_iff, on_eq]; exact ⟨fun k => k.2, fun k => ⟨in3_iff.1 h, k⟩⟩)
end Go.Proofs.Ytlifghecgpibfaa
