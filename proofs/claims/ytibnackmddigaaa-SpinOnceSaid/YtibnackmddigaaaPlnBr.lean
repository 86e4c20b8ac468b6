/- merged: The contracts of ratio's calls; written by auto_ratio.py. Conditions: numbers that a wide.Int can be; of sums and products: that all fits. Sums, differences, products of fractions, where all fits; written by auto_ratio2.py. Conditions: those that each theorem names. The contract of At of geom; written by auto_geom3.py. Conditions: points in range. Fractions of small numbers: Make with a Den above 0, sums and products of whole numbers, and what At comes to. Conditions: those that each theorem names. The document's examples, which the laws' awake asks. No condition but those that each theorem names. Turns and inner points, as Bools. No condition but those that each theorem names. Lines that meet, as Bools. No condition but those that each theorem names. The document's Less, Area, Turn, Within (croftref05). Conditions: points in range. The document's Area, Turn, On, Meet, Around (croftref05), and flip, move of the laws; written by auto_geom4.py. Conditions: points in range. The document's Meet; written by auto_geom4.py. Conditions: points in range. Inner points against the document's. No condition but those that each theorem names. Lines that meet against the document's. No condition but those that each theorem names. The contracts of geom and of the document's geometry that plan asks, in Below's words. Conditions: those that each theorem names. -/
import Derived.Test.YtibnackmddigaaaGeoB
import Derived.Test.YtibnackmddigaaaOps
import Derived.Test.YtibnackmddigaaaGeoC
import Derived.Test.YtibnackmddigaaaGeoD
section
namespace Go.Proofs.Ytibnackmddigaaa
open Go.ChangeShapes Go.WideShapes Go.ChangeAt Go.RowKit
set_option linter.unusedVariables false
set_option linter.unusedSimpArgs false

end Go.Proofs.Ytibnackmddigaaa
end
section
namespace Go.Proofs.Ytibnackmddigaaa
open Go.ChangeShapes Go.WideShapes Go.ChangeAt Go.RowKit
set_option linter.unusedVariables false
set_option linter.unusedSimpArgs false

end Go.Proofs.Ytibnackmddigaaa
end
section
namespace Go.Proofs.Ytibnackmddigaaa
open Go.ChangeShapes Go.WideShapes Go.ChangeAt Go.RowKit
set_option linter.unusedVariables false
set_option linter.unusedSimpArgs false

end Go.Proofs.Ytibnackmddigaaa
end
section
namespace Go.Proofs.Ytibnackmddigaaa
open Go.ChangeShapes Go.WideShapes Go.ChangeAt Go.RowKit
set_option linter.unusedVariables false
set_option linter.unusedSimpArgs false

end Go.Proofs.Ytibnackmddigaaa
end
section
namespace Go.Proofs.Ytibnackmddigaaa
open Go.ChangeShapes Go.WideShapes Go.ChangeAt Go.RowKit
set_option linter.unusedVariables false
set_option linter.unusedSimpArgs false

end Go.Proofs.Ytibnackmddigaaa
end
section
namespace Go.Proofs.Ytibnackmddigaaa
open Go.ChangeShapes Go.WideShapes Go.ChangeAt Go.RowKit
set_option linter.unusedVariables false
set_option linter.unusedSimpArgs false

theorem Rng.flip {x y : Int} (h : Rng x y) : Rng y x := ⟨h.2.2.1, h.2.2.2, h.1, h.2.1⟩
theorem onB_iff {p1 p2 a1 a2 b1 b2 : Int} : onB p1 p2 a1 a2 b1 b2 = true ↔ (Rng p1 p2 ∧ Rng a1 a2 ∧ Rng b1 b2) ∧ OnP p1 p2 a1 a2 b1 b2 := by
  unfold onB OnP tn
  simp only [Bool.and_eq_true, Bool.or_eq_true, lsB_iff, in3_iff, beq_iff_eq, sg_zero]
  grind
end Go.Proofs.Ytibnackmddigaaa
end
section
namespace Go.Proofs.Ytibnackmddigaaa
open Go.ChangeShapes Go.WideShapes Go.ChangeAt Go.RowKit
set_option linter.unusedVariables false
set_option linter.unusedSimpArgs false

theorem ptB_iff {a1 a2 b1 b2 c1 c2 d1 d2 : Int} : ptB a1 a2 b1 b2 c1 c2 d1 d2 = true ↔ sg (ar a1 a2 b1 b2 c1 c2) * sg (ar a1 a2 b1 b2 d1 d2) < 0 := by
  unfold ptB tn; rw [decide_eq_true_eq]
theorem mtB_iff {a1 a2 b1 b2 c1 c2 d1 d2 : Int} : mtB a1 a2 b1 b2 c1 c2 d1 d2 = true ↔ (Rng a1 a2 ∧ Rng b1 b2 ∧ Rng c1 c2 ∧ Rng d1 d2) ∧ ¬ (a1 = b1 ∧ a2 = b2) ∧ ¬ (c1 = d1 ∧ c2 = d2) ∧ MeetP a1 a2 b1 b2 c1 c2 d1 d2 := by
  unfold mtB MeetP
  simp only [Bool.and_eq_true, Bool.or_eq_true, onB_iff, in4_iff, ptB_iff, Bool.not_eq_true', decide_eq_false_iff_not, decide_eq_true_eq]
  generalize OnP a1 a2 c1 c2 d1 d2 = O1
  generalize OnP b1 b2 c1 c2 d1 d2 = O2
  generalize OnP c1 c2 a1 a2 b1 b2 = O3
  generalize OnP d1 d2 a1 a2 b1 b2 = O4
  generalize Rng a1 a2 = R1
  generalize Rng b1 b2 = R2
  generalize Rng c1 c2 = R3
  generalize Rng d1 d2 = R4
  grind
end Go.Proofs.Ytibnackmddigaaa
end
section
namespace Go.Proofs.Ytibnackmddigaaa
open Go.ChangeShapes Go.WideShapes Go.ChangeAt Go.RowKit
set_option linter.unusedVariables false
set_option linter.unusedSimpArgs false

end Go.Proofs.Ytibnackmddigaaa
end
section
namespace Go.Proofs.Ytibnackmddigaaa
open Go.ChangeShapes Go.WideShapes Go.ChangeAt Go.RowKit
set_option linter.unusedVariables false
set_option linter.unusedSimpArgs false

end Go.Proofs.Ytibnackmddigaaa
end
section
namespace Go.Proofs.Ytibnackmddigaaa
open Go.ChangeShapes Go.WideShapes Go.ChangeAt Go.RowKit
set_option linter.unusedVariables false
set_option linter.unusedSimpArgs false

end Go.Proofs.Ytibnackmddigaaa
end
section
namespace Go.Proofs.Ytibnackmddigaaa
open Go.ChangeShapes Go.WideShapes Go.ChangeAt Go.RowKit
set_option linter.unusedVariables false
set_option linter.unusedSimpArgs false

end Go.Proofs.Ytibnackmddigaaa
end
section
namespace Go.Proofs.Ytibnackmddigaaa
open Go.ChangeShapes Go.WideShapes Go.ChangeAt Go.RowKit
set_option linter.unusedVariables false
set_option linter.unusedSimpArgs false

end Go.Proofs.Ytibnackmddigaaa
end
section
namespace Go.Proofs.Ytibnackmddigaaa.Pl
open Go.ChangeShapes Go.WideShapes Go.ChangeAt Go.RowKit
set_option linter.unusedVariables false
set_option linter.unusedSimpArgs false
theorem On_any {p1 p2 a1 a2 b1 b2 : Int} (w : World) : Calls Try.prog 99 #[.agg #[.int .i64 p1, .int .i64 p2], .agg #[.int .i64 a1, .int .i64 a2], .agg #[.int .i64 b1, .int .i64 b2]] w fun e w' => e = .returned (.bool (onB p1 p2 a1 a2 b1 b2)) ∧ Below w.heap.size w w' :=
  (Go.Proofs.Ytibnackmddigaaa.On_any w).mono fun _ _ h => ⟨h.1, h.2.base⟩
theorem Meet_any {a1 a2 b1 b2 c1 c2 d1 d2 : Int} (w : World) : Calls Try.prog 101 #[.agg #[.int .i64 a1, .int .i64 a2], .agg #[.int .i64 b1, .int .i64 b2], .agg #[.int .i64 c1, .int .i64 c2], .agg #[.int .i64 d1, .int .i64 d2]] w fun e w' => e = .returned (.bool (mtB a1 a2 b1 b2 c1 c2 d1 d2)) ∧ Below w.heap.size w w' :=
  (Go.Proofs.Ytibnackmddigaaa.Meet_any w).mono fun _ _ h => ⟨h.1, h.2.base⟩
theorem In_any (x y : Int) (w : World) : Calls Try.prog 75 #[.agg #[.int .i64 x, .int .i64 y]] w fun e w' => e = .returned (.bool (inB x y)) ∧ Below w.heap.size w w' :=
  (Go.Proofs.Ytibnackmddigaaa.In_any x y w).mono fun _ _ h => ⟨h.1, h.2.base⟩
end Go.Proofs.Ytibnackmddigaaa.Pl
end
