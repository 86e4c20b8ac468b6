
/- Plain mathematics of 64-bit numbers and bytes; it speaks of no program. No condition but those that each theorem names. -/
import Derived.Lib.BitFns
import Derived.Laws.BitsAllLaws
import Derived.Laws.Bits64b
import Derived.RowKit
namespace Go.Proofs.YteepggjbgdjchaaDoor

theorem nat_xor_ones (a : Nat) (h : a < 18446744073709551616) : a ^^^ 18446744073709551615 = 18446744073709551615 - a := by
  have h1 : (BitVec.ofNat 64 a ^^^ BitVec.allOnes 64).toNat = a ^^^ 18446744073709551615 := by
    rw [BitVec.toNat_xor, BitVec.toNat_ofNat, BitVec.toNat_allOnes, Nat.mod_eq_of_lt h]
  rw [← h1, BitVec.xor_allOnes, BitVec.toNat_not, BitVec.toNat_ofNat, Nat.mod_eq_of_lt h]

theorem u64_xor_ones (a : Int) (h0 : 0 ≤ a) (h1 : a ≤ 18446744073709551615) : bits .xor .u64 a 18446744073709551615 = 18446744073709551615 - a := by
  obtain ⟨n, rfl⟩ := Int.eq_ofNat_of_zero_le h0
  have := u64_xor_nat n 18446744073709551615 (by omega) (by omega)
  rw [nat_xor_ones n (by omega)] at this
  refine this.trans ?_
  omega

theorem u64_xor_zero (a : Int) (h0 : 0 ≤ a) (h1 : a ≤ 18446744073709551615) : bits .xor .u64 a 0 = a := by
  obtain ⟨n, rfl⟩ := Int.eq_ofNat_of_zero_le h0
  have := u64_xor_nat n 0 (by omega) (by omega)
  simpa using this

def foldZ (n : Int) : Int := if 0 ≤ n then 2 * n else -2 * n - 1
def unfoldZ (u : Int) : Int := if u % 2 = 0 then u / 2 else -(u / 2) - 1

theorem fold_eq (n : Int) (h0 : -9223372036854775808 ≤ n) (h1 : n ≤ 9223372036854775807) :
    bits .xor .u64 (IntKind.u64.wrap (IntKind.u64.wrap n * 2)) (IntKind.u64.wrap (n / 9223372036854775808)) = foldZ n := by
  unfold foldZ
  by_cases h : 0 ≤ n
  · rw [if_pos h]
    have e1 : n / 9223372036854775808 = 0 := by omega
    rw [e1, IntKind.wrap_u64, IntKind.wrap_u64, IntKind.wrap_u64]
    have e2 : n % 18446744073709551616 * 2 % 18446744073709551616 = 2 * n := by omega
    rw [e2]; exact u64_xor_zero _ (by omega) (by omega)
  · rw [if_neg h]
    have e1 : n / 9223372036854775808 = -1 := by omega
    rw [e1, IntKind.wrap_u64, IntKind.wrap_u64, IntKind.wrap_u64]
    have e2 : n % 18446744073709551616 * 2 % 18446744073709551616 = 2 * n + 18446744073709551616 := by omega
    rw [e2]
    have e3 : (-1 : Int) % 18446744073709551616 = 18446744073709551615 := by decide
    rw [e3, u64_xor_ones _ (by omega) (by omega)]
    omega

theorem unfold_foldZ (n : Int) : unfoldZ (foldZ n) = n := by unfold unfoldZ foldZ; split <;> split <;> omega
theorem fold_unfoldZ (u : Int) (h : 0 ≤ u) : foldZ (unfoldZ u) = u := by unfold unfoldZ foldZ; split <;> split <;> omega
theorem foldZ_range (n : Int) (h0 : -9223372036854775808 ≤ n) (h1 : n ≤ 9223372036854775807) : 0 ≤ foldZ n ∧ foldZ n ≤ 18446744073709551615 := by
  unfold foldZ; split <;> omega
theorem unfoldZ_range (u : Int) (h0 : 0 ≤ u) (h1 : u ≤ 18446744073709551615) : -9223372036854775808 ≤ unfoldZ u ∧ unfoldZ u ≤ 9223372036854775807 := by
  unfold unfoldZ; split <;> omega

theorem unfold_eq (u : Int) (h0 : 0 ≤ u) (h1 : u ≤ 18446744073709551615) :
    RowKit.wrap64 (bits .xor .u64 (u / 2) (IntKind.u64.wrap (-bits .and .u64 u 1))) = unfoldZ u := by
  have ha : bits .and .u64 u 1 = u % 2 := by
    obtain ⟨n, rfl⟩ := Int.eq_ofNat_of_zero_le h0
    have := u64_and_nat n 1 (by omega) (by omega)
    rw [nat_mask1] at this
    refine this.trans ?_
    omega
  rw [ha]
  unfold unfoldZ
  by_cases h : u % 2 = 0
  · rw [if_pos h, h, IntKind.wrap_u64]
    have e3 : (-0 : Int) % 18446744073709551616 = 0 := by decide
    rw [e3, u64_xor_zero _ (by omega) (by omega)]
    unfold RowKit.wrap64; omega
  · have h' : u % 2 = 1 := by omega
    rw [if_neg h, h', IntKind.wrap_u64]
    have e3 : (-1 : Int) % 18446744073709551616 = 18446744073709551615 := by decide
    rw [e3, u64_xor_ones _ (by omega) (by omega)]
    unfold RowKit.wrap64; omega

theorem two_pow_lt (k : Nat) (h : k < 64) : (2 : Int) ^ k ≤ 9223372036854775808 := by
  have : (2 : Int) ^ k ≤ 2 ^ 63 := by exact_mod_cast Nat.pow_le_pow_right (by omega) (by omega : k ≤ 63)
  simpa using this
theorem two_pow_pos (k : Nat) : (1 : Int) ≤ 2 ^ k := by
  have : (0 : Int) < 2 ^ k := Int.pow_pos (by decide)
  omega

theorem cut_eq (u b : Int) (h0 : 0 ≤ u) (h1 : u ≤ 18446744073709551615) (hb : b < 64) :
    bits .and .u64 u (IntKind.u64.wrap (IntKind.u64.wrap (2 ^ b.toNat) - 1)) = u % 2 ^ b.toNat := by
  have hp := two_pow_lt b.toNat (by omega)
  have hq := two_pow_pos b.toNat
  rw [IntKind.wrap_u64, IntKind.wrap_u64]
  have e : ((2 : Int) ^ b.toNat % 18446744073709551616 - 1) % 18446744073709551616 = 2 ^ b.toNat - 1 := by omega
  rw [e]
  obtain ⟨n, rfl⟩ := Int.eq_ofNat_of_zero_le h0
  have hc : ((2 : Int) ^ b.toNat - 1) = ((2 ^ b.toNat - 1 : Nat) : Int) := by
    have : 1 ≤ 2 ^ b.toNat := Nat.one_le_two_pow
    push_cast [Int.ofNat_sub this]
    rfl
  have hn : (2 ^ b.toNat - 1 : Nat) < 18446744073709551616 := by
    have : (2 ^ b.toNat : Nat) ≤ 2 ^ 63 := Nat.pow_le_pow_right (by omega) (by omega)
    omega
  have hu := u64_and_nat n (2 ^ b.toNat - 1) (by omega) hn
  rw [hc]
  refine hu.trans ?_
  rw [Nat.and_two_pow_sub_one_eq_mod]
  push_cast
  rfl

theorem fits_zero (n : Int) (k : Nat) : n / 2 ^ k = 0 ↔ 0 ≤ n ∧ n < 2 ^ k := by
  have hq := two_pow_pos k
  generalize (2 : Int) ^ k = p at *
  constructor
  · intro h
    have h1 := Int.emod_nonneg n (show p ≠ 0 by omega)
    have h2 := Int.emod_lt_of_pos n (show 0 < p by omega)
    have h3 := Int.mul_ediv_add_emod n p
    rw [h] at h3
    omega
  · rintro ⟨a, b⟩
    exact Int.ediv_eq_zero_of_lt a b

theorem fits_neg (n : Int) (k : Nat) : n / 2 ^ k = -1 ↔ -(2 ^ k) ≤ n ∧ n < 0 := by
  have hq := two_pow_pos k
  generalize (2 : Int) ^ k = p at *
  constructor
  · intro h
    have h1 := Int.emod_nonneg n (show p ≠ 0 by omega)
    have h2 := Int.emod_lt_of_pos n (show 0 < p by omega)
    have h3 := Int.mul_ediv_add_emod n p
    rw [h] at h3
    omega
  · rintro ⟨a, b⟩
    have h4 : (n + p) / p = 0 := Int.ediv_eq_zero_of_lt (by omega) (by omega)
    have h5 : (n + p) / p = n / p + 1 := Int.add_ediv_of_dvd_right (Int.dvd_refl p) |>.trans (by rw [Int.ediv_self (by omega)])
    omega

def fitsB (n b : Int) : Bool := decide (-(2 ^ (b - 1).toNat) ≤ n ∧ n < 2 ^ (b - 1).toNat)

theorem fits_eq (n b : Int) (hb : 1 ≤ b) : (decide (n / 2 ^ (b.toNat - 1) = 0) || decide (n / 2 ^ (b.toNat - 1) = -1)) = fitsB n b := by
  have e : (b - 1).toNat = b.toNat - 1 := by omega
  unfold fitsB
  rw [e]
  have hq := two_pow_pos (b.toNat - 1)
  have h1 := fits_zero n (b.toNat - 1)
  have h2 := fits_neg n (b.toNat - 1)
  rw [Bool.eq_iff_iff]
  simp only [Bool.or_eq_true, decide_eq_true_eq]
  rw [h1, h2]
  omega
end Go.Proofs.YteepggjbgdjchaaDoor
