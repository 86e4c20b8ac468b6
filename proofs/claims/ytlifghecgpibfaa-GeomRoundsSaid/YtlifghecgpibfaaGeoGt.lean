
/- Directions stand in one order: what GeomRounds asks, of the program's answers. No condition but those that each theorem names. -/
import Derived.Test.YtlifghecgpibfaaGeoGr
namespace Go.Proofs.Ytlifghecgpibfaa
open Go.ChangeShapes Go.WideShapes Go.ChangeAt Go.RowKit
set_option linter.unusedVariables false
set_option linter.unusedSimpArgs false

theorem rd_negw2 (o1 o2 a1 a2 b1 b2 : Int) : IntKind.i64.wrap (-(-rdV o1 o2 a1 a2 b1 b2)) = -(-rdV o1 o2 a1 a2 b1 b2) := by
  have := rd_range o1 o2 a1 a2 b1 b2
  simp only [IntKind.wrap_i64]; omega
theorem rd_zero {o1 o2 a1 a2 b1 b2 c1 c2 : Int} (h4 : in4 o1 o2 a1 a2 b1 b2 c1 c2 = true) (ha : ¬ (a1 = o1 ∧ a2 = o2)) (hb : ¬ (b1 = o1 ∧ b2 = o2)) (h : rdV o1 o2 a1 a2 b1 b2 = 0) : tn o1 o2 a1 a2 b1 b2 = 0 := by
  obtain ⟨r1, r2, r3, r4⟩ := in4_iff.1 h4
  rw [rd_in (in3_iff.2 ⟨r1, r2, r3⟩) (decide_eq_false ha) (decide_eq_false hb)] at h
  exact rnd_zero h
theorem rd_tr {o1 o2 a1 a2 b1 b2 c1 c2 : Int} (h4 : in4 o1 o2 a1 a2 b1 b2 c1 c2 = true) (ha : ¬ (a1 = o1 ∧ a2 = o2)) (hb : ¬ (b1 = o1 ∧ b2 = o2)) (hc : ¬ (c1 = o1 ∧ c2 = o2)) (h1 : ¬ 0 < rdV o1 o2 a1 a2 b1 b2) (h2 : ¬ 0 < rdV o1 o2 b1 b2 c1 c2) (h3 : ¬ rdV o1 o2 a1 a2 c1 c2 ≤ 0) : False := by
  obtain ⟨r1, r2, r3, r4⟩ := in4_iff.1 h4
  rw [rd_in (in3_iff.2 ⟨r1, r2, r3⟩) (decide_eq_false ha) (decide_eq_false hb)] at h1
  rw [rd_in (in3_iff.2 ⟨r1, r3, r4⟩) (decide_eq_false hb) (decide_eq_false hc)] at h2
  rw [rd_in (in3_iff.2 ⟨r1, r2, r4⟩) (decide_eq_false ha) (decide_eq_false hc)] at h3
  exact h3 (rnd_trans ha hb hc (by omega) (by omega))
end Go.Proofs.Ytlifghecgpibfaa
