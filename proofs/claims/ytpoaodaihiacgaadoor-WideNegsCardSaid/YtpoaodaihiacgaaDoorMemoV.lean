
/- Two small facts that all regions with numbers want: that Of is entered, that a number equals itself. -/
import Derived.Test.YtpoaodaihiacgaaDoorWideG
import Derived.Test.YtpoaodaihiacgaaDoorWideH
import Derived.Test.YtpoaodaihiacgaaDoorWideI
import Derived.Test.YtpoaodaihiacgaaDoorWideJ
import Derived.Test.YtpoaodaihiacgaaDoorWideK
import Derived.Test.YtpoaodaihiacgaaDoorWideQ
import Derived.Test.YtpoaodaihiacgaaDoorWideR
import Derived.Test.YtpoaodaihiacgaaDoorMemoW
namespace Go.Proofs.YtpoaodaihiacgaaDoor
open Go.ChangeShapes Go.WideShapes Go.ChangeAt Go.RowKit
set_option linter.unusedVariables false

theorem en_Of : ∀ args w, (callFunc 28 args).run Tryd.prog w = .ok (.enter 28 args) w := enter_of Tryd.func28 rfl rfl
theorem eq_i (n : Int) (w : World) : (Op.equalIn 10000 24 (.agg #[.int .u64 (L0 n), .int .u64 (L1 n), .int .u64 (L2 n), .int .u64 (L3 n)]) (.agg #[.int .u64 (L0 n), .int .u64 (L1 n), .int .u64 (L2 n), .int .u64 (L3 n)])).run Tryd.prog w = .ok true w := by
  rw [eq_Int]; simp
end Go.Proofs.YtpoaodaihiacgaaDoor
