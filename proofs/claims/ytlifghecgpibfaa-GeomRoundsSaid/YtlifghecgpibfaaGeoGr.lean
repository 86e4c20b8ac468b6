
/- Directions, as the program orders them. No condition but those that each theorem names. -/
import Derived.Test.YtlifghecgpibfaaGeoV
import Derived.Test.YtlifghecgpibfaaGeoGc
namespace Go.Proofs.Ytlifghecgpibfaa
open Go.ChangeShapes Go.WideShapes Go.ChangeAt Go.RowKit
set_option linter.unusedVariables false
set_option linter.unusedSimpArgs false

theorem Around_is {o1 o2 a1 a2 b1 b2 t : Int} (h : rdV o1 o2 a1 a2 b1 b2 = t) (w : World) : Calls Try.prog 18 #[.agg #[.int .i64 o1, .int .i64 o2], .agg #[.int .i64 a1, .int .i64 a2], .agg #[.int .i64 b1, .int .i64 b2]] w fun e w' => e = .returned (.int .i64 t) ∧ Below w.heap.size w w' := h ▸ Around_any w
theorem rd_in {o1 o2 a1 a2 b1 b2 : Int} (h : in3 o1 o2 a1 a2 b1 b2 = true) (ha : decide (a1 = o1 ∧ a2 = o2) = false) (hb : decide (b1 = o1 ∧ b2 = o2) = false) : rdV o1 o2 a1 a2 b1 b2 = rndP o1 o2 a1 a2 b1 b2 := by
  unfold rdV rndP laB tn
  rw [h, ha, hb]
  by_cases x : Late o1 o2 a1 a2 <;> by_cases y : Late o1 o2 b1 b2 <;> simp [x, y]
theorem rd_out1 {o1 o2 a1 a2 b1 b2 : Int} (h : in3 o1 o2 a1 a2 b1 b2 = false) : rdV o1 o2 a1 a2 b1 b2 = 0 := by unfold rdV; rw [h]; simp
theorem rd_out2 {o1 o2 a1 a2 b1 b2 : Int} (h : decide (a1 = o1 ∧ a2 = o2) = true) : rdV o1 o2 a1 a2 b1 b2 = 0 := by unfold rdV; rw [h]; simp
theorem rd_out3 {o1 o2 a1 a2 b1 b2 : Int} (h : decide (b1 = o1 ∧ b2 = o2) = true) : rdV o1 o2 a1 a2 b1 b2 = 0 := by unfold rdV; rw [h]; simp
theorem in3_bc {o1 o2 a1 a2 b1 b2 : Int} : in3 o1 o2 b1 b2 a1 a2 = in3 o1 o2 a1 a2 b1 b2 := by unfold in3; cases inB o1 o2 <;> cases inB a1 a2 <;> cases inB b1 b2 <;> rfl
theorem rd_anti (o1 o2 a1 a2 b1 b2 : Int) : rdV o1 o2 b1 b2 a1 a2 = -rdV o1 o2 a1 a2 b1 b2 := by
  cases h : in3 o1 o2 a1 a2 b1 b2
  · rw [rd_out1 h, rd_out1 (in3_bc.trans h)]; rfl
  · cases ha : decide (a1 = o1 ∧ a2 = o2)
    · cases hb : decide (b1 = o1 ∧ b2 = o2)
      · rw [rd_in h ha hb, rd_in (in3_bc.trans h) hb ha, rnd_anti]
      · rw [rd_out3 hb, rd_out2 hb]; rfl
    · rw [rd_out2 ha, rd_out3 ha]; rfl
theorem rd_range (o1 o2 a1 a2 b1 b2 : Int) : -1 ≤ rdV o1 o2 a1 a2 b1 b2 ∧ rdV o1 o2 a1 a2 b1 b2 ≤ 1 := by
  cases h : in3 o1 o2 a1 a2 b1 b2
  · rw [rd_out1 h]; decide
  · cases ha : decide (a1 = o1 ∧ a2 = o2)
    · cases hb : decide (b1 = o1 ∧ b2 = o2)
      · rw [rd_in h ha hb]; exact rnd_range _ _ _ _ _ _
      · rw [rd_out3 hb]; decide
    · rw [rd_out2 ha]; decide
theorem rd_negw (o1 o2 a1 a2 b1 b2 : Int) : IntKind.i64.wrap (-rdV o1 o2 a1 a2 b1 b2) = -rdV o1 o2 a1 a2 b1 b2 := by
  have := rd_range o1 o2 a1 a2 b1 b2
  simp only [IntKind.wrap_i64]; omega
end Go.Proofs.Ytlifghecgpibfaa
