
/- The contract of wide.divide. Conditions: sizes, b not nought. -/
import Derived.Test.YtjmojddnedngaaaDoorWideX
namespace Go.Proofs.YtjmojddnedngaaaDoor
open Go.ChangeShapes Go.WideShapes Go.ChangeAt Go.RowKit
set_option linter.unusedVariables false

theorem small_L {a : Int} (h : Siz a) (h1 : L1 a = 0) (h2 : L2 a = 0) (h3 : L3 a = 0) : L0 a = a ∧ a ≤ 18446744073709551615 := by
  obtain ⟨_, _⟩ := h
  unfold L0 L1 L2 L3 at *; omega
theorem L_small {a : Int} (h0 : 0 ≤ a) (h : a ≤ 18446744073709551615) : L0 a = a ∧ L1 a = 0 ∧ L2 a = 0 ∧ L3 a = 0 := by
  unfold L0 L1 L2 L3; omega
theorem divide_any (a b : Int) (ha : Siz a) (hb : Siz b) (hb1 : 0 < b) (w : World) :
    Calls Tryd.prog 51 #[.agg #[.int .u64 (L0 a), .int .u64 (L1 a), .int .u64 (L2 a), .int .u64 (L3 a)], .agg #[.int .u64 (L0 b), .int .u64 (L1 b), .int .u64 (L2 b), .int .u64 (L3 b)]] w fun e w' => e = .returned (.tuple #[.agg #[.int .u64 (L0 (a / b)), .int .u64 (L1 (a / b)), .int .u64 (L2 (a / b)), .int .u64 (L3 (a / b))], .agg #[.int .u64 (L0 (a % b)), .int .u64 (L1 (a % b)), .int .u64 (L2 (a % b)), .int .u64 (L3 (a % b))]]) ∧ Below w.heap.size w w' := by
  obtain ⟨p0, p1, p2, p3⟩ := bl_prop a ha
  obtain ⟨q0, q1, q2, q3⟩ := bl_prop b hb
  obtain ⟨q4, q5⟩ := q3 (by omega)
  by_cases hs : (L1 a = 0 ∧ L2 a = 0 ∧ L3 a = 0) ∧ (L1 b = 0 ∧ L2 b = 0 ∧ L3 b = 0)
  · obtain ⟨⟨a1, a2, a3⟩, b1, b2, b3⟩ := hs
    obtain ⟨ea, la⟩ := small_L ha a1 a2 a3
    obtain ⟨eb, lb⟩ := small_L hb b1 b2 b3
    have d0 : 0 ≤ a / b := Int.ediv_nonneg ha.lo (by omega)
    have d1 : a / b ≤ a := Int.ediv_le_self _ ha.lo
    have m0 := Int.emod_nonneg a (show b ≠ 0 by omega)
    have m1 := Int.emod_lt_of_pos a hb1
    obtain ⟨s0, s1, s2, s3⟩ := L_small d0 (by omega)
    obtain ⟨t0, t1, t2, t3⟩ := L_small m0 (by omega)
    rw [s0, s1, s2, s3, t0, t1, t2, t3, ea, eb, a1, a2, a3, b1, b2, b3]
    exact divide_small a b ha.lo la hb1 lb w
  · by_cases hl : blz a < blz b
    · have lt : a < b := div_less a b (blz a).toNat (blz b).toNat p2 (by rw [show (blz b).toNat - 1 = (blz b - 1).toNat by omega]; exact q5) (by omega)
      have e1 : a / b = 0 := Int.ediv_eq_zero_of_lt ha.lo lt
      have e2 : a % b = a := Int.emod_eq_of_lt ha.lo lt
      rw [e1, e2]
      by_cases hsa : L1 a = 0 ∧ L2 a = 0 ∧ L3 a = 0
      · exact divide_less_t a b (by simpa using hsa) (by simpa using fun h1 h2 h3 => hs ⟨hsa, h1, h2, h3⟩) _ _ rfl rfl p0 p1 q1 q0 hl w
      · exact divide_less_f a b (by simpa using hsa) _ _ rfl rfl p0 p1 q1 q0 hl w
    · have hP : blz a - blz b = (((blz a).toNat - (blz b).toNat : Nat) : Int) := by omega
      obtain ⟨g1, g2⟩ := div_start a b (blz a).toNat (blz b).toNat p2 q2 (by omega) (by rw [show (blz b).toNat - 1 = (blz b - 1).toNat by omega]; exact q5) (by omega) (by omega)
      by_cases hsa : L1 a = 0 ∧ L2 a = 0 ∧ L3 a = 0
      · exact divide_long_t a b ha hb hb1 (by simpa using hsa) (by simpa using fun h1 h2 h3 => hs ⟨hsa, h1, h2, h3⟩) _ _ _ rfl rfl p0 p1 q1 q4 hP g1 g2 w
      · exact divide_long_f a b ha hb hb1 (by simpa using hsa) _ _ _ rfl rfl p0 p1 q1 q4 hP g1 g2 w
end Go.Proofs.YtjmojddnedngaaaDoor
