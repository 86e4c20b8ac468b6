
/- What '==' says of two points and of two fractions; the contracts of the small functions of geom: In, Less, late, gap. Conditions: coordinates that an int can be. -/
import Derived.Test.YtlifghecgpibfaaDoorWideH
import Derived.Test.YtlifghecgpibfaaDoorWideI
import Derived.Test.YtlifghecgpibfaaDoorMemoW
import Derived.Test.YtlifghecgpibfaaDoorGeoN
import Derived.Test.YtlifghecgpibfaaDoorRatM
namespace Go.Proofs.YtlifghecgpibfaaDoor
open Go.ChangeShapes Go.WideShapes Go.ChangeAt Go.RowKit
set_option linter.unusedVariables false
set_option linter.unusedSimpArgs false

/-- a coordinate that an int can be -/
structure I64 (x : Int) : Prop where
  lo : -9223372036854775808 ≤ x
  hi : x ≤ 9223372036854775807
def inB (x y : Int) : Bool := decide (-268435456 ≤ x) && decide (x ≤ 268435456) && decide (-268435456 ≤ y) && decide (y ≤ 268435456)
theorem inB_iff {x y : Int} : inB x y = true ↔ -268435456 ≤ x ∧ x ≤ 268435456 ∧ -268435456 ≤ y ∧ y ≤ 268435456 := by unfold inB; simp; omega
def ltB (a1 a2 b1 b2 : Int) : Bool := decide (a2 < b2) || (decide (a2 = b2) && decide (a1 < b1))
end Go.Proofs.YtlifghecgpibfaaDoor
