
/- Decimal digits of a number, 18 at a time and one at a time. It speaks of no function. -/
import Derived.Lib.ItoaNum
namespace Go.Proofs.YtigcbgehnlilaaaDoor
open Go.Lib

theorem dec_step (n : Nat) (h : 10 ≤ n) : decDigits n = decDigits (n / 10) ++ [UInt8.ofNat (48 + n % 10)] := by
  rw [decDigits, dif_neg (by omega)]
theorem dec_one (n : Nat) (h : n < 10) : decDigits n = [UInt8.ofNat (48 + n % 10)] := by
  rw [decDigits_one h, Nat.mod_eq_of_lt h]

/-- the lowest k digits -/
def pad : Nat → Nat → List UInt8
  | 0, _ => []
  | k + 1, n => pad k (n / 10) ++ [UInt8.ofNat (48 + n % 10)]

theorem pad_zero : ∀ k : Nat, pad k 0 = List.replicate k 48
  | 0 => rfl
  | k + 1 => by
    rw [pad, Nat.zero_div, pad_zero k, List.replicate_succ']
    rfl
theorem dec_pad : ∀ (k n : Nat), n / 10 ^ k ≠ 0 → decDigits n = decDigits (n / 10 ^ k) ++ pad k n
  | 0, n, _ => by simp [pad]
  | k + 1, n, h => by
    have e : n / 10 ^ (k + 1) = n / 10 / 10 ^ k := by rw [Nat.pow_succ, Nat.mul_comm, Nat.div_div_eq_div_mul]
    rw [e] at h ⊢
    have h10 : 10 ≤ n := by
      rcases Nat.lt_or_ge n 10 with h' | h'
      · rw [Nat.div_eq_of_lt h', Nat.zero_div] at h; exact absurd rfl h
      · exact h'
    rw [dec_step n h10, dec_pad k (n / 10) h, pad, List.append_assoc]
theorem pad_mod : ∀ (k n : Nat), pad k n = pad k (n % 10 ^ k)
  | 0, _ => rfl
  | k + 1, n => by
    have e1 : n % 10 ^ (k + 1) / 10 = n / 10 % 10 ^ k := by rw [Nat.pow_succ, Nat.mul_comm, Nat.mod_mul_right_div_self]
    have e2 : n % 10 ^ (k + 1) % 10 = n % 10 := Nat.mod_mod_of_dvd _ ⟨10 ^ k, by rw [Nat.pow_succ, Nat.mul_comm]⟩
    rw [pad, pad, e1, e2, pad_mod k (n / 10)]
theorem dec_len : ∀ (k n : Nat), n < 10 ^ (k + 1) → (decDigits n).length ≤ k + 1
  | 0, n, h => by rw [dec_one n (by simpa using h)]; simp
  | k + 1, n, h => by
    rcases Nat.lt_or_ge n 10 with h' | h'
    · rw [dec_one n h']; simp
    · rw [dec_step n h']
      have := dec_len k (n / 10) (by rw [Nat.pow_succ] at h; omega)
      simp
      omega
theorem pad_dec : ∀ (k n : Nat), n < 10 ^ (k + 1) → pad (k + 1) n = List.replicate (k + 1 - (decDigits n).length) 48 ++ decDigits n
  | 0, n, h => by
    have h' : n < 10 := by simpa using h
    rw [dec_one n h']
    simp [pad]
  | k + 1, n, h => by
    rcases Nat.lt_or_ge n 10 with h' | h'
    · rw [pad, Nat.div_eq_of_lt h', pad_zero, dec_one n h']
      simp
    · have hl := dec_len k (n / 10) (by rw [Nat.pow_succ] at h; omega)
      rw [pad, pad_dec k (n / 10) (by rw [Nat.pow_succ] at h; omega), dec_step n h']
      simp
/-- 18 digits at a time -/
theorem dec_18 (n : Nat) (h : n / 1000000000000000000 ≠ 0) : decDigits n = decDigits (n / 1000000000000000000) ++ (List.replicate (18 - (decDigits (n % 1000000000000000000)).length) 48 ++ decDigits (n % 1000000000000000000)) := by
  have e := dec_pad 18 n h
  rw [pad_mod, pad_dec 17 _ (Nat.mod_lt _ (by decide))] at e
  exact e
theorem dec_len18 (n : Nat) : (decDigits (n % 1000000000000000000)).length ≤ 18 := dec_len 17 _ (Nat.mod_lt _ (by decide))
#print axioms dec_18
end Go.Proofs.YtigcbgehnlilaaaDoor
