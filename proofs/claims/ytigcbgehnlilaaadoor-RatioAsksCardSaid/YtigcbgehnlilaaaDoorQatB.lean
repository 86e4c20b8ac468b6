
/- Make of the program and of the document are one: croft/ratio.Make and croftref04.Make of any two numbers that fit; the law package's plain. -/
import Derived.Test.YtigcbgehnlilaaaDoorFbA
import Derived.Test.YtigcbgehnlilaaaDoorRatF
namespace Go.Proofs.YtigcbgehnlilaaaDoor
open Go.ChangeShapes Go.WideShapes Go.ChangeAt Go.RowKit
set_option linter.unusedVariables false
set_option linter.unusedSimpArgs false

theorem tdiv_pos_fit {n g : Int} (hn : Fit n) (hg : 0 < g) : Fit (n.tdiv g) := by
  have h1 := hn.lo
  have h2 := hn.hi
  have hab : (n.tdiv g).natAbs = n.natAbs / g.natAbs := by rw [Int.natAbs_tdiv]; rfl
  have hle : n.natAbs / g.natAbs ≤ n.natAbs := Nat.div_le_self _ _
  by_cases h : 0 ≤ n
  · have := Int.tdiv_nonneg h (Int.le_of_lt hg)
    exact ⟨by omega, by omega⟩
  · have h3 : n.tdiv g ≤ 0 := by
      have h4 := Int.tdiv_nonneg (show 0 ≤ -n by omega) (Int.le_of_lt hg)
      rw [Int.neg_tdiv] at h4
      omega
    exact ⟨by omega, by omega⟩
end Go.Proofs.YtigcbgehnlilaaaDoor
