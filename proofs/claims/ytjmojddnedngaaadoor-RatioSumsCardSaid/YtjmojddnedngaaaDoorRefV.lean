
/- The contract of croftref03.Words: the four words of a number, where it fits. -/
import Derived.Test.YtjmojddnedngaaaDoorRefV1
import Derived.Test.YtjmojddnedngaaaDoorRefV2
import Derived.Test.YtjmojddnedngaaaDoorRefV3
import Derived.Test.YtjmojddnedngaaaDoorRefV4
namespace Go.Proofs.YtjmojddnedngaaaDoor
open Go.ChangeShapes Go.WideShapes Go.ChangeAt Go.RowKit
set_option linter.unusedVariables false

theorem words_num (T C : Nat) (v : Value) (z : Int) (w : World) (hv : Num w T C v z) :
    Calls Tryd.prog 34 #[v] w fun e w' => ((Fit z ∧ e = .returned (.tuple #[.agg #[.int .u64 (L0 z), .int .u64 (L1 z), .int .u64 (L2 z), .int .u64 (L3 z)], .bool true])) ∨ (¬ Fit z ∧ e = .returned (.tuple #[.agg #[.int .u64 0, .int .u64 0, .int .u64 0, .int .u64 0], .bool false]))) ∧ Below w.heap.size w w' := by
  by_cases h1 : (digs z.natAbs).length = 16
  · by_cases h2 : 32768 ≤ dg (digs z.natAbs) 15
    · cases h3 : decide (z < 0) with
      | false => exact words_1 T C v z w hv ⟨⟨h1, h2⟩, h3⟩
      | true => exact words_2 T C v z w hv ⟨⟨h1, h2⟩, h3⟩
    · exact words_3 T C v z w hv ⟨h1, h2⟩
  · exact words_4 T C v z w hv h1
end Go.Proofs.YtjmojddnedngaaaDoor
