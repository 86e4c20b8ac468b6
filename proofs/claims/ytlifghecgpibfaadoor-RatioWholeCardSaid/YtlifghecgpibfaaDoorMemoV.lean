
/- Two small facts that all regions with numbers want: that Of is entered, that a number equals itself. -/
import Derived.Test.YtlifghecgpibfaaDoorWideG
import Derived.Test.YtlifghecgpibfaaDoorWideH
import Derived.Test.YtlifghecgpibfaaDoorWideI
import Derived.Test.YtlifghecgpibfaaDoorWideJ
import Derived.Test.YtlifghecgpibfaaDoorWideK
import Derived.Test.YtlifghecgpibfaaDoorWideQ
import Derived.Test.YtlifghecgpibfaaDoorWideR
import Derived.Test.YtlifghecgpibfaaDoorMemoW
namespace Go.Proofs.YtlifghecgpibfaaDoor
open Go.ChangeShapes Go.WideShapes Go.ChangeAt Go.RowKit
set_option linter.unusedVariables false

theorem en_Of : ∀ args w, (callFunc 31 args).run Tryd.prog w = .ok (.enter 31 args) w := enter_of Tryd.func31 rfl rfl
theorem eq_i (n : Int) (w : World) : (Op.equalIn 10000 24 (.agg #[.int .u64 (L0 n), .int .u64 (L1 n), .int .u64 (L2 n), .int .u64 (L3 n)]) (.agg #[.int .u64 (L0 n), .int .u64 (L1 n), .int .u64 (L2 n), .int .u64 (L3 n)])).run Tryd.prog w = .ok true w := by
  rw [eq_Int]; simp
end Go.Proofs.YtlifghecgpibfaaDoor
