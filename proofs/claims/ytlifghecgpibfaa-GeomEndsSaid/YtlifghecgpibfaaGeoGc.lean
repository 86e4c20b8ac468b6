
/- Turns and inner points, as Bools. No condition but those that each theorem names. -/
import Derived.Test.YtlifghecgpibfaaGeoH
namespace Go.Proofs.Ytlifghecgpibfaa
open Go.ChangeShapes Go.WideShapes Go.ChangeAt Go.RowKit
set_option linter.unusedVariables false
set_option linter.unusedSimpArgs false

theorem Rng.flip {x y : Int} (h : Rng x y) : Rng y x := ⟨h.2.2.1, h.2.2.2, h.1, h.2.1⟩
theorem onB_iff {p1 p2 a1 a2 b1 b2 : Int} : onB p1 p2 a1 a2 b1 b2 = true ↔ (Rng p1 p2 ∧ Rng a1 a2 ∧ Rng b1 b2) ∧ OnP p1 p2 a1 a2 b1 b2 := by
  unfold onB OnP tn
  simp only [Bool.and_eq_true, Bool.or_eq_true, lsB_iff, in3_iff, beq_iff_eq, sg_zero]
  grind
theorem bool_ext {a b : Bool} (h : a = true ↔ b = true) : a = b := Bool.eq_iff_iff.2 h
theorem on_out {p1 p2 a1 a2 b1 b2 : Int} (h : in3 p1 p2 a1 a2 b1 b2 = false) : onB p1 p2 a1 a2 b1 b2 = false := by unfold onB; rw [h]; simp
theorem tn_rot {a1 a2 b1 b2 c1 c2 : Int} : tn b1 b2 c1 c2 a1 a2 = tn a1 a2 b1 b2 c1 c2 := by unfold tn; rw [ar_rot]
theorem tn_swap {a1 a2 b1 b2 c1 c2 : Int} : tn b1 b2 a1 a2 c1 c2 = -tn a1 a2 b1 b2 c1 c2 := by unfold tn; rw [ar_swap, sg_neg]
theorem tn_flip {a1 a2 b1 b2 c1 c2 : Int} : tn a2 a1 b2 b1 c2 c1 = -tn a1 a2 b1 b2 c1 c2 := by unfold tn; rw [ar_flip, sg_neg]
theorem tn_move {a1 a2 b1 b2 c1 c2 x y : Int} : tn (a1 + x) (a2 + y) (b1 + x) (b2 + y) (c1 + x) (c2 + y) = tn a1 a2 b1 b2 c1 c2 := by unfold tn; rw [ar_move]
theorem on_ac {p1 p2 a1 a2 b1 b2 : Int} : onB p1 p2 b1 b2 a1 a2 = onB p1 p2 a1 a2 b1 b2 :=
  bool_ext (by rw [onB_iff, onB_iff, on_swap]; exact ⟨fun ⟨⟨x, y, z⟩, r⟩ => ⟨⟨x, z, y⟩, r⟩, fun ⟨⟨x, y, z⟩, r⟩ => ⟨⟨x, z, y⟩, r⟩⟩)
theorem onB_move {p1 p2 a1 a2 b1 b2 x y : Int} (h : in3 p1 p2 a1 a2 b1 b2 = true) (k : in3 (p1 + x) (p2 + y) (a1 + x) (a2 + y) (b1 + x) (b2 + y) = true) : onB (p1 + x) (p2 + y) (a1 + x) (a2 + y) (b1 + x) (b2 + y) = onB p1 p2 a1 a2 b1 b2 :=
  bool_ext (by rw [onB_iff, onB_iff, on_move]; exact ⟨fun r => ⟨in3_iff.1 h, r.2⟩, fun r => ⟨in3_iff.1 k, r.2⟩⟩)
end Go.Proofs.Ytlifghecgpibfaa
