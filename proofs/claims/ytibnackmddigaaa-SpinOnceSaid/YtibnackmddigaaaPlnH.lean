/- merged: What is answered whether a plan may be changed. Plain mathematics. The contracts of plan's Right, CanAdd, CanLink, CanSplit, CanDrop, CanCut. Conditions: at most 100,000 vertices, and edges. -/
import Derived.Test.YtibnackmddigaaaPlnM
import Derived.Test.YtibnackmddigaaaPlnG
section
namespace Go.Proofs.Ytibnackmddigaaa.Pl
open Go.ChangeShapes Go.WideShapes Go.ChangeAt Go.RowKit
set_option linter.unusedVariables false
end Go.Proofs.Ytibnackmddigaaa.Pl
end
section
namespace Go.Proofs.Ytibnackmddigaaa.Pl
open Go.ChangeShapes Go.WideShapes Go.ChangeAt Go.RowKit
set_option linter.unusedVariables false
set_option linter.unusedSimpArgs false

section
variable {v e : Value} {vs : List Vx} {es : List Eg} {w : World}
theorem draw_yes (hv : VIn w v vs) (he : EIn w e es) (hn : vs.length ≤ 100000) (hm : es.length ≤ 100000) (h : Rt vs es) : Calls Try.prog 38 #[.agg #[v, e]] w fun r w' => ∃ d, r = .returned (.tuple #[.pointer (some ⟨d, 0, none⟩), .bool true]) ∧ DrawAt w' w.heap.size d vs es ∧ Below w.heap.size w w' := by
  refine (draw_any v e vs es w hv he hn hm).mono ?_
  rintro r w' ⟨⟨_, d, h1, h2⟩ | ⟨hr, _⟩, hb⟩
  · exact ⟨d, h1, h2, hb⟩
  · exact absurd h hr
theorem draw_no (hv : VIn w v vs) (he : EIn w e es) (hn : vs.length ≤ 100000) (hm : es.length ≤ 100000) (h : ¬ Rt vs es) : Calls Try.prog 38 #[.agg #[v, e]] w fun r w' => r = .returned (.tuple #[.pointer none, .bool false]) ∧ Below w.heap.size w w' := by
  refine (draw_any v e vs es w hv he hn hm).mono ?_
  rintro r w' ⟨⟨hr, d, h1, h2⟩ | ⟨_, h1⟩, hb⟩
  · exact absurd hr h
  · exact ⟨h1, hb⟩
set_option maxRecDepth 10000 in
theorem right_any (hv : VIn w v vs) (he : EIn w e es) (hn : vs.length ≤ 100000) (hm : es.length ≤ 100000) : Calls Try.prog 12 #[.agg #[v, e]] w fun r w' => r = .returned (.bool (rtB vs es)) ∧ Below w.heap.size w w' := by
  have HV : Hid (∀ W, Below w.heap.size w W → VIn W v vs) := Lib.hid fun W hW => TIn.below hv hW
  have HE : Hid (∀ W, Below w.heap.size w W → EIn W e es) := Lib.hid fun W hW => TIn.below he hW
  have DY := Lib.hid (fun W (hW : Below w.heap.size w W) (h : Rt vs es) => draw_yes (HV.out W hW) (HE.out W hW) hn hm h)
  have DN := Lib.hid (fun W (hW : Below w.heap.size w W) (h : ¬ Rt vs es) => draw_no (HV.out W hW) (HE.out W hW) hn hm h)
  obtain ⟨a, c, rfl⟩ := hv.sl
  obtain ⟨a', c', rfl⟩ := he.sl
  have BB := Lib.hid (bx1 w 30 #[.slice a vs.length c, .slice a' es.length c'])
  clear HV HE hv he
  by_cases h : Rt vs es
  · rw [rtB_iff.2 h]
    have RT := Lib.hid h
    clear h DN
    generalize vs.length = n at *
    generalize es.length = m at *
    go_enter Try.func12, Try.ntmps12
    go_wp2_with (go_at_call 38; refine (DY.out _ BB.out RT.out).mono ?_; rintro e w2 ⟨d, rfl, d2, b2⟩; have D2 := Lib.hid d2; have B2 := Lib.hid (then_ BB.out b2 BB.out.size); clear d2 b2)
    go_ret
    exact ⟨rfl, B2.out⟩
  · rw [rtB_not h]
    have RT := Lib.hid h
    clear h DY
    generalize vs.length = n at *
    generalize es.length = m at *
    go_enter Try.func12, Try.ntmps12
    go_wp2_with (go_at_call 38; refine (DN.out _ BB.out RT.out).mono ?_; rintro e w2 ⟨rfl, b2⟩; have B2 := Lib.hid (then_ BB.out b2 BB.out.size); clear b2)
    go_ret
    exact ⟨rfl, B2.out⟩
end
end Go.Proofs.Ytibnackmddigaaa.Pl
end
