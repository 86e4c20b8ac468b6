
/- Lines that meet against the document's. No condition but those that each theorem names. -/
import Derived.Test.YtlifghecgpibfaaGeoGm
import Derived.Test.YtlifghecgpibfaaGeoGo
import Derived.Test.YtlifghecgpibfaaGeoJ
namespace Go.Proofs.Ytlifghecgpibfaa
open Go.ChangeShapes Go.WideShapes Go.ChangeAt Go.RowKit
set_option linter.unusedVariables false
set_option linter.unusedSimpArgs false

theorem rmB_iff {a1 a2 b1 b2 c1 c2 d1 d2 : Int} : rmB a1 a2 b1 b2 c1 c2 d1 d2 = true ↔ MeetR a1 a2 b1 b2 c1 c2 d1 d2 := by
  unfold rmB MeetR tn
  by_cases h : sg (ar a1 a2 b1 b2 c1 c2) = 0 ∧ sg (ar a1 a2 b1 b2 d1 d2) = 0
  · rw [if_pos (by simp [h.1, h.2])]
    simp only [Bool.or_eq_true, Bool.and_eq_true, roB_iff, wiB_iff]
    constructor
    · intro k; exact .inl ⟨h.1, h.2, by grind⟩
    · rintro (k | k)
      · have := k.2.2; grind
      · exact absurd h k.1
  · rw [if_neg (by simpa using fun k => by simpa using fun l => h ⟨k, l⟩)]
    by_cases k : (a1 = c1 ∧ a2 = c2) ∨ (a1 = d1 ∧ a2 = d2) ∨ (b1 = c1 ∧ b2 = c2) ∨ (b1 = d1 ∧ b2 = d2)
    · rw [if_pos (by simp only [Bool.or_eq_true, decide_eq_true_eq]; grind)]
      constructor
      · intro l; cases l
      · rintro (l | l)
        · exact absurd ⟨l.1, l.2.1⟩ h
        · obtain ⟨_, l1, l2, l3, l4, _⟩ := l
          grind
    · rw [if_neg (by simp only [Bool.or_eq_true, decide_eq_true_eq]; grind)]
      simp only [Bool.not_eq_true', Bool.or_eq_false_iff, beq_eq_false_iff_ne]
      constructor
      · intro l
        refine .inr ⟨h, fun e => k (.inl e), fun e => k (.inr (.inl e)), fun e => k (.inr (.inr (.inl e))), fun e => k (.inr (.inr (.inr e))), l.1, l.2⟩
      · rintro (l | l)
        · exact absurd ⟨l.1, l.2.1⟩ h
        · exact ⟨l.2.2.2.2.2.1, l.2.2.2.2.2.2⟩
theorem mt_in {a1 a2 b1 b2 c1 c2 d1 d2 : Int} (h : in4 a1 a2 b1 b2 c1 c2 d1 d2 = true) (hab : decide (a1 = b1 ∧ a2 = b2) = false) (hcd : decide (c1 = d1 ∧ c2 = d2) = false) : mtB a1 a2 b1 b2 c1 c2 d1 d2 = rmB a1 a2 b1 b2 c1 c2 d1 d2 := by
  have hab' := of_decide_eq_false hab
  have hcd' := of_decide_eq_false hcd
  exact bool_ext (by rw [mtB_iff, rmB_iff, meet_eq hab' hcd']; exact ⟨fun k => k.2.2.2, fun k => ⟨in4_iff.1 h, hab', hcd', k⟩⟩)
end Go.Proofs.Ytlifghecgpibfaa
