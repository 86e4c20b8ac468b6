/- -/
import Derived.Test.YthakafnecddliaaRatM
section
namespace Go.Proofs.Ythakafnecddliaa

theorem Siz.small {a : Int} (h : Siz a) (n : Nat) (hn : 256 ≤ n) : a / 2 ^ n = 0 := by
  obtain ⟨h0, h1⟩ := h
  refine Int.ediv_eq_zero_of_lt h0 ?_
  have e : (2 : Int) ^ 256 ≤ 2 ^ n := by exact_mod_cast Nat.pow_le_pow_right (by omega : 0 < 2) hn
  have e2 : (2 : Int) ^ 256 = 115792089237316195423570985008687907853269984665640564039457584007913129639936 := by decide +kernel
  omega
end Go.Proofs.Ythakafnecddliaa
end
section
namespace Go.Proofs.Ythakafnecddliaa

theorem pow_pos2 (n : Nat) : (0 : Int) < 2 ^ n := Int.pow_pos (by decide)
theorem pow_succ2 (n : Nat) : (2 : Int) ^ (n + 1) = 2 * 2 ^ n := by rw [Int.pow_succ, Int.mul_comm]
structure DivAt (a b q r : Int) (n : Nat) : Prop where
  eq : a = q * b + r
  r0 : 0 ≤ r
  lt : r < b * 2 ^ n
  q0 : 0 ≤ q
  low : q % 2 ^ n = 0
theorem DivAt.part (b : Int) (n : Nat) : b * 2 ^ (n + 1) / 2 = b * 2 ^ n := by
  rw [pow_succ2, ← Int.mul_assoc, Int.mul_comm b 2, Int.mul_assoc, Int.mul_ediv_cancel_left _ (by decide)]
theorem DivAt.take {a b q r : Int} {n : Nat} (h : DivAt a b q r (n + 1)) (hr : b * 2 ^ n ≤ r) : DivAt a b (q + 2 ^ n) (r - b * 2 ^ n) n := by
  obtain ⟨e, r0, lt, q0, low⟩ := h
  have p := pow_pos2 n
  rw [pow_succ2] at lt low
  refine ⟨?_, by omega, ?_, by omega, ?_⟩
  · rw [Int.add_mul, e, Int.mul_comm (2 ^ n) b]; omega
  · rw [← Int.mul_assoc, Int.mul_comm b 2, Int.mul_assoc] at lt; omega
  · have h1 := (Int.emod_emod_of_dvd q (show (2 ^ n : Int) ∣ 2 * 2 ^ n from Int.dvd_mul_left 2 (2 ^ n)))
    rw [low] at h1
    rw [Int.add_emod_right, ← h1]; exact Int.zero_emod _
theorem DivAt.done {a b q r : Int} (h : DivAt a b q r 0) (hb : 0 < b) : q = a / b ∧ r = a % b := by
  obtain ⟨e, r0, lt, q0, low⟩ := h
  rw [show (2 : Int) ^ 0 = 1 from rfl, Int.mul_one] at lt
  have h1 : a / b = q := by
    rw [e, Int.add_comm, Int.add_mul_ediv_right _ _ (by omega), Int.ediv_eq_zero_of_lt r0 lt, Int.zero_add]
  have h2 := Int.emod_def a b
  rw [h1, Int.mul_comm, e] at h2
  constructor
  · exact h1.symm
  · rw [e, h2]; omega
/-- the words of a number, by their places -/
def Lf (z : Int) : Nat → Int
  | 0 => L0 z
  | 1 => L1 z
  | 2 => L2 z
  | _ => L3 z
end Go.Proofs.Ythakafnecddliaa
end
