
/- Plain mathematics of points of the plane, second part: how two lines meet, and the order of directions. It speaks of no program. No condition but those that each theorem names. -/
import Derived.Test.YtjmojddnedngaaaDoorFbA
namespace Go.Proofs.YtjmojddnedngaaaDoor
/-- in the second half of the way around -/
def Late (o1 o2 p1 p2 : Int) : Prop := p2 < o2 ∨ p2 = o2 ∧ p1 < o1
instance (o1 o2 p1 p2 : Int) : Decidable (Late o1 o2 p1 p2) := by unfold Late; infer_instance
end Go.Proofs.YtjmojddnedngaaaDoor
