
/- Lines that meet, as Bools. No condition but those that each theorem names. -/
import Derived.Test.YtlifghecgpibfaaGeoD
import Derived.Test.YtlifghecgpibfaaGeoGc
namespace Go.Proofs.Ytlifghecgpibfaa
open Go.ChangeShapes Go.WideShapes Go.ChangeAt Go.RowKit
set_option linter.unusedVariables false
set_option linter.unusedSimpArgs false

theorem ptB_iff {a1 a2 b1 b2 c1 c2 d1 d2 : Int} : ptB a1 a2 b1 b2 c1 c2 d1 d2 = true ↔ sg (ar a1 a2 b1 b2 c1 c2) * sg (ar a1 a2 b1 b2 d1 d2) < 0 := by
  unfold ptB tn; rw [decide_eq_true_eq]
theorem mtB_iff {a1 a2 b1 b2 c1 c2 d1 d2 : Int} : mtB a1 a2 b1 b2 c1 c2 d1 d2 = true ↔ (Rng a1 a2 ∧ Rng b1 b2 ∧ Rng c1 c2 ∧ Rng d1 d2) ∧ ¬ (a1 = b1 ∧ a2 = b2) ∧ ¬ (c1 = d1 ∧ c2 = d2) ∧ MeetP a1 a2 b1 b2 c1 c2 d1 d2 := by
  unfold mtB MeetP
  simp only [Bool.and_eq_true, Bool.or_eq_true, onB_iff, in4_iff, ptB_iff, Bool.not_eq_true', decide_eq_false_iff_not, decide_eq_true_eq]
  generalize OnP a1 a2 c1 c2 d1 d2 = O1
  generalize OnP b1 b2 c1 c2 d1 d2 = O2
  generalize OnP c1 c2 a1 a2 b1 b2 = O3
  generalize OnP d1 d2 a1 a2 b1 b2 = O4
  generalize Rng a1 a2 = R1
  generalize Rng b1 b2 = R2
  generalize Rng c1 c2 = R3
  generalize Rng d1 d2 = R4
  grind
theorem mt_out1 {a1 a2 b1 b2 c1 c2 d1 d2 : Int} (h : in4 a1 a2 b1 b2 c1 c2 d1 d2 = false) : mtB a1 a2 b1 b2 c1 c2 d1 d2 = false := by unfold mtB; rw [h]; simp
theorem mt_out2 {a1 a2 b1 b2 c1 c2 d1 d2 : Int} (h : decide (a1 = b1 ∧ a2 = b2) = true) : mtB a1 a2 b1 b2 c1 c2 d1 d2 = false := by unfold mtB; rw [h]; simp
theorem mt_out3 {a1 a2 b1 b2 c1 c2 d1 d2 : Int} (h : decide (c1 = d1 ∧ c2 = d2) = true) : mtB a1 a2 b1 b2 c1 c2 d1 d2 = false := by unfold mtB; rw [h]; simp
theorem mt_ba {a1 a2 b1 b2 c1 c2 d1 d2 : Int} : mtB b1 b2 a1 a2 c1 c2 d1 d2 = mtB a1 a2 b1 b2 c1 c2 d1 d2 :=
  bool_ext (by
    rw [mtB_iff, mtB_iff, meet_ba]
    have e : (b1 = a1 ∧ b2 = a2) ↔ (a1 = b1 ∧ a2 = b2) := ⟨fun h => ⟨h.1.symm, h.2.symm⟩, fun h => ⟨h.1.symm, h.2.symm⟩⟩
    rw [e]
    exact ⟨fun ⟨⟨x, y, z, u⟩, r⟩ => ⟨⟨y, x, z, u⟩, r⟩, fun ⟨⟨x, y, z, u⟩, r⟩ => ⟨⟨y, x, z, u⟩, r⟩⟩)
theorem mt_cd {a1 a2 b1 b2 c1 c2 d1 d2 : Int} : mtB c1 c2 d1 d2 a1 a2 b1 b2 = mtB a1 a2 b1 b2 c1 c2 d1 d2 :=
  bool_ext (by
    rw [mtB_iff, mtB_iff, meet_cd]
    exact ⟨fun ⟨⟨x, y, z, u⟩, r, s, t⟩ => ⟨⟨z, u, x, y⟩, s, r, t⟩, fun ⟨⟨x, y, z, u⟩, r, s, t⟩ => ⟨⟨z, u, x, y⟩, s, r, t⟩⟩)
theorem mt_flip {a1 a2 b1 b2 c1 c2 d1 d2 : Int} : mtB a2 a1 b2 b1 c2 c1 d2 d1 = mtB a1 a2 b1 b2 c1 c2 d1 d2 :=
  bool_ext (by
    rw [mtB_iff, mtB_iff, meet_flip]
    have f : ∀ {x y : Int}, Rng y x ↔ Rng x y := ⟨fun h => h.flip, fun h => h.flip⟩
    rw [f (x := a1), f (x := b1), f (x := c1), f (x := d1), and_comm (a := a2 = b2), and_comm (a := c2 = d2)])
theorem mt_move {a1 a2 b1 b2 c1 c2 d1 d2 x y : Int} (h : in4 a1 a2 b1 b2 c1 c2 d1 d2 = true) (k : in4 (a1 + x) (a2 + y) (b1 + x) (b2 + y) (c1 + x) (c2 + y) (d1 + x) (d2 + y) = true) : mtB (a1 + x) (a2 + y) (b1 + x) (b2 + y) (c1 + x) (c2 + y) (d1 + x) (d2 + y) = mtB a1 a2 b1 b2 c1 c2 d1 d2 :=
  bool_ext (by
    rw [mtB_iff, mtB_iff, meet_move]
    have e : ∀ p q z : Int, p + z = q + z ↔ p = q := fun p q z => by omega
    rw [e, e, e, e]
    exact ⟨fun r => ⟨in4_iff.1 h, r.2⟩, fun r => ⟨in4_iff.1 k, r.2⟩⟩)
theorem Meet_is {a1 a2 b1 b2 c1 c2 d1 d2 : Int} {b : Bool} (h : mtB a1 a2 b1 b2 c1 c2 d1 d2 = b) (w : World) : Calls Try.prog 15 #[.agg #[.int .i64 a1, .int .i64 a2], .agg #[.int .i64 b1, .int .i64 b2], .agg #[.int .i64 c1, .int .i64 c2], .agg #[.int .i64 d1, .int .i64 d2]] w fun e w' => e = .returned (.bool b) ∧ Below w.heap.size w w' := h ▸ Meet_any w
end Go.Proofs.Ytlifghecgpibfaa
