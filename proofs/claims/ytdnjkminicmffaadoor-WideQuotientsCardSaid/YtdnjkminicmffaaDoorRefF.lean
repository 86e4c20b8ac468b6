
/- The digits of a number out of its words in two's complement: what From reckons. It speaks of no function. -/
import Derived.Test.YtdnjkminicmffaaDoorRefM
namespace Go.Proofs.YtdnjkminicmffaaDoor

def frd (u : Int) (i : Nat) : Int := u / 65536 ^ i % 65536
/-- the digits so far, and what is carried -/
def fr (u : Int) (neg : Bool) : Nat → List Int × Int
  | 0 => ([], 1)
  | i + 1 => if neg then ((fr u neg i).1 ++ [(65535 - frd u i + (fr u neg i).2) % 65536], (65535 - frd u i + (fr u neg i).2) / 65536) else ((fr u neg i).1 ++ [frd u i], (fr u neg i).2)
theorem frd_range (u : Int) (i : Nat) : 0 ≤ frd u i ∧ frd u i ≤ 65535 := by unfold frd; omega
theorem mod_step (u P : Int) (hP : 0 < P) : u % (P * 65536) = u % P + P * (u / P % 65536) := by
  have e1 := Int.mul_ediv_add_emod u P
  have e2 := Int.mul_ediv_add_emod (u / P) 65536
  have g1 := Int.emod_nonneg u (show P ≠ 0 by omega)
  have g2 := Int.emod_lt_of_pos u hP
  have g3 : 0 ≤ u / P % 65536 ∧ u / P % 65536 ≤ 65535 := by omega
  generalize u / P % 65536 = r at *
  generalize u / P / 65536 = k at *
  generalize u / P = j at *
  generalize u % P = t at *
  have h1 := Int.mul_le_mul_of_nonneg_left g3.2 (Int.le_of_lt hP)
  have h2 := Int.mul_nonneg (Int.le_of_lt hP) g3.1
  have e3 : u = t + P * r + P * 65536 * k := by
    rw [← e1, ← e2, Int.mul_add, ← Int.mul_assoc]
    omega
  rw [e3, Int.add_mul_emod_self_left]
  exact Int.emod_eq_of_lt (by omega) (by omega)
theorem fr_ok (u : Int) (neg : Bool) : ∀ i, (fr u neg i).1.length = i ∧ Dg (fr u neg i).1 ∧ 0 ≤ (fr u neg i).2 ∧ (fr u neg i).2 ≤ 1 ∧
    (neg = false → vl (fr u neg i).1 = u % 65536 ^ i) ∧ (neg = true → vl (fr u neg i).1 + 65536 ^ i * (fr u neg i).2 = 65536 ^ i - u % 65536 ^ i)
  | 0 => by simp [fr, vl, Dg.nil, Int.emod_one]
  | i + 1 => by
    obtain ⟨h1, h2, h3, h4, h5, h6⟩ := fr_ok u neg i
    have hP : (0 : Int) < 65536 ^ i := Int.pow_pos (by decide)
    have hm := mod_step u (65536 ^ i) hP
    have hr := frd_range u i
    rw [show u / 65536 ^ i % 65536 = frd u i from rfl] at hm
    rw [Int.pow_succ, hm, fr]
    generalize (fr u neg i).1 = o at *
    generalize (fr u neg i).2 = c at *
    generalize frd u i = D at *
    cases neg with
    | false =>
      simp only [Bool.false_eq_true, if_false]
      refine ⟨by simp [h1], h2.snoc hr.1 hr.2, h3, h4, fun _ => ?_, (fun h => by simp at h)⟩
      rw [vl_snoc, h1, h5 rfl]
    | true =>
      simp only [if_true]
      refine ⟨by simp [h1], h2.snoc (by omega) (by omega), by omega, by omega, (fun h => by simp at h), fun _ => ?_⟩
      have h7 := h6 rfl
      rw [vl_snoc, h1, Int.mul_assoc, Int.add_assoc, ← Int.mul_add]
      have e : (65535 - D + c) % 65536 + 65536 * ((65535 - D + c) / 65536) = 65535 - D + c := by omega
      rw [e]
      generalize (65536 : Int) ^ i = P at *
      generalize u % P = t at *
      have e2 : P * (65535 - D + c) = P * 65536 - P - P * D + P * c := by
        rw [show (65535 - D + c : Int) = 65536 - 1 - D + c by omega, Int.mul_add, Int.mul_sub, Int.mul_sub, Int.mul_one]
      rw [e2]
      omega
theorem fr_16 (z : Int) (hl : -57896044618658097711785492504343953926634992332820282019728792003956564819968 ≤ z) (hh : z ≤ 57896044618658097711785492504343953926634992332820282019728792003956564819967) :
    vl (fr (z % 115792089237316195423570985008687907853269984665640564039457584007913129639936) (decide (z < 0)) 16).1 = z.natAbs := by
  obtain ⟨h1, h2, h3, h4, h5, h6⟩ := fr_ok (z % 115792089237316195423570985008687907853269984665640564039457584007913129639936) (decide (z < 0)) 16
  have hp : (65536 : Int) ^ 16 = 115792089237316195423570985008687907853269984665640564039457584007913129639936 := by decide
  have hv := vl_nonneg h2
  rw [hp] at h5 h6
  by_cases hz : z < 0
  · have := h6 (by simpa using hz)
    omega
  · have := h5 (by simpa using hz)
    omega
end Go.Proofs.YtdnjkminicmffaaDoor
