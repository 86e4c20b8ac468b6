/- -/
import Derived.Test.YthakafnecddliaaWideJ
import Derived.Test.YthakafnecddliaaOps
import Derived.Test.YthakafnecddliaaGeoC
import Derived.Test.YthakafnecddliaaGeoF
import Derived.Test.YthakafnecddliaaGeoD
import Derived.Test.YthakafnecddliaaGeoJ
section
namespace Go.Proofs.Ythakafnecddliaa
open Go.ChangeShapes Go.WideShapes Go.ChangeAt Go.RowKit
set_option linter.unusedVariables false
set_option linter.unusedSimpArgs false

end Go.Proofs.Ythakafnecddliaa
end
section
namespace Go.Proofs.Ythakafnecddliaa
open Go.ChangeShapes Go.WideShapes Go.ChangeAt Go.RowKit
set_option linter.unusedVariables false
set_option linter.unusedSimpArgs false

end Go.Proofs.Ythakafnecddliaa
end
section
namespace Go.Proofs.Ythakafnecddliaa
open Go.ChangeShapes Go.WideShapes Go.ChangeAt Go.RowKit
set_option linter.unusedVariables false
set_option linter.unusedSimpArgs false

end Go.Proofs.Ythakafnecddliaa
end
section
namespace Go.Proofs.Ythakafnecddliaa
open Go.ChangeShapes Go.WideShapes Go.ChangeAt Go.RowKit
set_option linter.unusedVariables false
set_option linter.unusedSimpArgs false

end Go.Proofs.Ythakafnecddliaa
end
section
namespace Go.Proofs.Ythakafnecddliaa
open Go.ChangeShapes Go.WideShapes Go.ChangeAt Go.RowKit
set_option linter.unusedVariables false
set_option linter.unusedSimpArgs false

end Go.Proofs.Ythakafnecddliaa
end
section
namespace Go.Proofs.Ythakafnecddliaa
open Go.ChangeShapes Go.WideShapes Go.ChangeAt Go.RowKit
set_option linter.unusedVariables false
set_option linter.unusedSimpArgs false

theorem Rng.flip {x y : Int} (h : Rng x y) : Rng y x := ⟨h.2.2.1, h.2.2.2, h.1, h.2.1⟩
theorem onB_iff {p1 p2 a1 a2 b1 b2 : Int} : onB p1 p2 a1 a2 b1 b2 = true ↔ (Rng p1 p2 ∧ Rng a1 a2 ∧ Rng b1 b2) ∧ OnP p1 p2 a1 a2 b1 b2 := by
  unfold onB OnP tn
  simp only [Bool.and_eq_true, Bool.or_eq_true, lsB_iff, in3_iff, beq_iff_eq, sg_zero]
  grind
theorem bool_ext {a b : Bool} (h : a = true ↔ b = true) : a = b := Bool.eq_iff_iff.2 h
end Go.Proofs.Ythakafnecddliaa
end
section
namespace Go.Proofs.Ythakafnecddliaa
open Go.ChangeShapes Go.WideShapes Go.ChangeAt Go.RowKit
set_option linter.unusedVariables false
set_option linter.unusedSimpArgs false

theorem wiB_iff {p1 p2 a1 a2 b1 b2 : Int} : wiB p1 p2 a1 a2 b1 b2 = true ↔ InR p1 p2 a1 a2 b1 b2 := by
  unfold wiB InR bxB tn
  simp only [Bool.and_eq_true, Bool.or_eq_true, beq_iff_eq, sg_zero, decide_eq_true_eq, and_assoc]
theorem roB_iff {p1 p2 a1 a2 b1 b2 : Int} : roB p1 p2 a1 a2 b1 b2 = true ↔ OnR p1 p2 a1 a2 b1 b2 := by
  unfold roB OnR
  simp only [Bool.and_eq_true, wiB_iff, Bool.not_eq_true', decide_eq_false_iff_not, and_assoc]
theorem on_in {p1 p2 a1 a2 b1 b2 : Int} (h : in3 p1 p2 a1 a2 b1 b2 = true) : onB p1 p2 a1 a2 b1 b2 = roB p1 p2 a1 a2 b1 b2 :=
  bool_ext (by rw [onB_iff, roB_iff, on_eq]; exact ⟨fun k => k.2, fun k => ⟨in3_iff.1 h, k⟩⟩)
end Go.Proofs.Ythakafnecddliaa
end
section
namespace Go.Proofs.Ythakafnecddliaa
open Go.ChangeShapes Go.WideShapes Go.ChangeAt Go.RowKit
set_option linter.unusedVariables false
set_option linter.unusedSimpArgs false

theorem ptB_iff {a1 a2 b1 b2 c1 c2 d1 d2 : Int} : ptB a1 a2 b1 b2 c1 c2 d1 d2 = true ↔ sg (ar a1 a2 b1 b2 c1 c2) * sg (ar a1 a2 b1 b2 d1 d2) < 0 := by
  unfold ptB tn; rw [decide_eq_true_eq]
theorem mtB_iff {a1 a2 b1 b2 c1 c2 d1 d2 : Int} : mtB a1 a2 b1 b2 c1 c2 d1 d2 = true ↔ (Rng a1 a2 ∧ Rng b1 b2 ∧ Rng c1 c2 ∧ Rng d1 d2) ∧ ¬ (a1 = b1 ∧ a2 = b2) ∧ ¬ (c1 = d1 ∧ c2 = d2) ∧ MeetP a1 a2 b1 b2 c1 c2 d1 d2 := by
  unfold mtB MeetP
  simp only [Bool.and_eq_true, Bool.or_eq_true, onB_iff, in4_iff, ptB_iff, Bool.not_eq_true', decide_eq_false_iff_not, decide_eq_true_eq]
  generalize OnP a1 a2 c1 c2 d1 d2 = O1
  generalize OnP b1 b2 c1 c2 d1 d2 = O2
  generalize OnP c1 c2 a1 a2 b1 b2 = O3
  generalize OnP d1 d2 a1 a2 b1 b2 = O4
  generalize Rng a1 a2 = R1
  generalize Rng b1 b2 = R2
  generalize Rng c1 c2 = R3
  generalize Rng d1 d2 = R4
  grind
end Go.Proofs.Ythakafnecddliaa
end
section
namespace Go.Proofs.Ythakafnecddliaa
open Go.ChangeShapes Go.WideShapes Go.ChangeAt Go.RowKit
set_option linter.unusedVariables false
set_option linter.unusedSimpArgs false

theorem rmB_iff {a1 a2 b1 b2 c1 c2 d1 d2 : Int} : rmB a1 a2 b1 b2 c1 c2 d1 d2 = true ↔ MeetR a1 a2 b1 b2 c1 c2 d1 d2 := by
  unfold rmB MeetR tn
  by_cases h : sg (ar a1 a2 b1 b2 c1 c2) = 0 ∧ sg (ar a1 a2 b1 b2 d1 d2) = 0
  · rw [if_pos (by simp [h.1, h.2])]
    simp only [Bool.or_eq_true, Bool.and_eq_true, roB_iff, wiB_iff]
    constructor
    · intro k; exact .inl ⟨h.1, h.2, by grind⟩
    · rintro (k | k)
      · have := k.2.2; grind
      · exact absurd h k.1
  · rw [if_neg (by simpa using fun k => by simpa using fun l => h ⟨k, l⟩)]
    by_cases k : (a1 = c1 ∧ a2 = c2) ∨ (a1 = d1 ∧ a2 = d2) ∨ (b1 = c1 ∧ b2 = c2) ∨ (b1 = d1 ∧ b2 = d2)
    · rw [if_pos (by simp only [Bool.or_eq_true, decide_eq_true_eq]; grind)]
      constructor
      · intro l; cases l
      · rintro (l | l)
        · exact absurd ⟨l.1, l.2.1⟩ h
        · obtain ⟨_, l1, l2, l3, l4, _⟩ := l
          grind
    · rw [if_neg (by simp only [Bool.or_eq_true, decide_eq_true_eq]; grind)]
      simp only [Bool.not_eq_true', Bool.or_eq_false_iff, beq_eq_false_iff_ne]
      constructor
      · intro l
        refine .inr ⟨h, fun e => k (.inl e), fun e => k (.inr (.inl e)), fun e => k (.inr (.inr (.inl e))), fun e => k (.inr (.inr (.inr e))), l.1, l.2⟩
      · rintro (l | l)
        · exact absurd ⟨l.1, l.2.1⟩ h
        · exact ⟨l.2.2.2.2.2.1, l.2.2.2.2.2.2⟩
theorem mt_in {a1 a2 b1 b2 c1 c2 d1 d2 : Int} (h : in4 a1 a2 b1 b2 c1 c2 d1 d2 = true) (hab : decide (a1 = b1 ∧ a2 = b2) = false) (hcd : decide (c1 = d1 ∧ c2 = d2) = false) : mtB a1 a2 b1 b2 c1 c2 d1 d2 = rmB a1 a2 b1 b2 c1 c2 d1 d2 := by
  have hab' := of_decide_eq_false hab
  have hcd' := of_decide_eq_false hcd
  exact bool_ext (by rw [mtB_iff, rmB_iff, meet_eq hab' hcd']; exact ⟨fun k => k.2.2.2, fun k => ⟨in4_iff.1 h, hab', hcd', k⟩⟩)
end Go.Proofs.Ythakafnecddliaa
end
