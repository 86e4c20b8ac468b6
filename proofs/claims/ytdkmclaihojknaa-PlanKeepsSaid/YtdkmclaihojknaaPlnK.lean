
/- What is answered whether a plan may be changed. Plain mathematics. -/
import Derived.Test.YtdkmclaihojknaaPlnM
namespace Go.Proofs.Ytdkmclaihojknaa.Pl
open Go.ChangeShapes Go.WideShapes Go.ChangeAt Go.RowKit
set_option linter.unusedVariables false
/-- what is answered whether an edge may be parted -/
def cSplit (vs : List Vx) (es : List Eg) (id x y : Int) : Int := match fE es id with
  | none => 6
  | some e => if onB x y (px vs e.a) (py vs e.a) (px vs e.b) (py vs e.b) = false then 1 else if 512 ≤ vs.length ∨ 1024 ≤ es.length then 18 else 0
def cDrop (vs : List Vx) (es : List Eg) (id : Int) : Int := if hasV vs id = false then 6 else if 0 < deg es id then 16 else 0
def cCut (es : List Eg) (id : Int) : Int := if hasE es id = false then 6 else 0
/-- of a plan that isn't right: 1 -/
noncomputable def orArg (vs : List Vx) (es : List Eg) (z : Int) : Int := if rtB vs es = true then z else 1
end Go.Proofs.Ytdkmclaihojknaa.Pl