
/- What slicing strings by whole numbers answers, as equations. It speaks of no function. -/
import Derived.Test.YteepggjbgdjchaaDoorBase
import Derived.WalkLawsBesides
namespace Go.Proofs.YteepggjbgdjchaaDoor
open Go.ChangeShapes Go.WideShapes Go.ChangeAt Go.RowKit
theorem slice_both (w : World) (s : ByteArray) (lo hi : Nat) (h1 : lo ≤ hi) (h2 : hi ≤ s.size) (a b : Int) (ha : a = (lo : Int)) (hb : b = (hi : Int)) :
    (Instr.slice 9 (.string s) (some (.int .i64 a)) (some (.int .i64 b)) none).run Tryd.prog w = .ok (.string (s.extract lo hi)) w := by
  subst ha hb
  have := run_slice_string (P := Tryd.prog) w 9 s .i64 .i64 (lo : Int) (hi : Int) Tryd.underlying9 (by omega) (by omega) (by omega)
  simpa using this
end Go.Proofs.YteepggjbgdjchaaDoor
