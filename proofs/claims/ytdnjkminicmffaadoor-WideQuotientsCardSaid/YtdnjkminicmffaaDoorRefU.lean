
/- The mathematics of croftref03.Words: the words out of the digits. It speaks of no function. -/
import Derived.Test.YtdnjkminicmffaaDoorRefG
namespace Go.Proofs.YtdnjkminicmffaaDoor
open Go.ChangeShapes Go.WideShapes Go.ChangeAt Go.RowKit
set_option linter.unusedVariables false

/-- a digit is a quotient's rest -/
theorem dg_digs : ∀ (i n : Nat), dg (digs n) i = frd (n : Int) i
  | 0, n => by
    by_cases h : n = 0
    · subst h; rw [digs_zero]; rfl
    · rw [digs_pos h]; simp [dg, frd]
  | i + 1, n => by
    by_cases h : n = 0
    · subst h
      rw [digs_zero]
      unfold frd
      rw [show ((0 : Nat) : Int) = 0 from rfl, Int.zero_ediv]
      rfl
    · have ih := dg_digs i (n / 65536)
      rw [digs_pos h]
      show (digs (n / 65536)).getD i 0 = _
      have e : frd (n : Int) (i + 1) = frd ((n / 65536 : Nat) : Int) i := by
        unfold frd
        rw [Int.pow_succ, Int.mul_comm, ← Int.ediv_ediv_of_nonneg (by decide)]
        rw [show ((n / 65536 : Nat) : Int) = (n : Int) / 65536 by omega]
      rw [e, ← ih]; rfl
/-- nothing below digit k -/
theorem low_zero (n : Nat) : ∀ k, (∀ j, j < k → frd (n : Int) j = 0) → (n : Int) % 65536 ^ k = 0
  | 0, _ => by simp [Int.emod_one]
  | k + 1, h => by
    have hP : (0 : Int) < 65536 ^ k := Int.pow_pos (by decide)
    have ih := low_zero n k (fun j hj => h j (by omega))
    have hm := mod_step (n : Int) (65536 ^ k) hP
    rw [Int.pow_succ, hm, ih, show (n : Int) / 65536 ^ k % 65536 = 0 from h k (by omega)]
    simp
theorem p15 : (65536 : Int) ^ 15 = 1766847064778384329583297500742918515827483896875618958121606201292619776 := by decide
theorem p16 : (65536 : Int) ^ 16 = 115792089237316195423570985008687907853269984665640564039457584007913129639936 := by decide
/-- more than 16 digits: it doesn't fit -/
theorem long_no {z : Int} (h : 16 < (digs z.natAbs).length) : ¬ Fit z := by
  have hn : z.natAbs ≠ 0 := fun e => by rw [e, digs_zero] at h; simp at h
  have h1 := (digs_len hn).1
  have h2 : (65536 : Int) ^ 16 ≤ 65536 ^ ((digs z.natAbs).length - 1) := by
    obtain ⟨t, ht⟩ : ∃ t, (digs z.natAbs).length - 1 = 16 + t := ⟨(digs z.natAbs).length - 1 - 16, by omega⟩
    rw [ht, Int.pow_add]
    have h5 : (0 : Int) < 65536 ^ t := Int.pow_pos (by decide)
    have := Int.mul_le_mul_of_nonneg_left (show (1 : Int) ≤ 65536 ^ t by omega) (show (0 : Int) ≤ 65536 ^ 16 by decide)
    omega
  rw [p16] at h2
  rintro ⟨a, b⟩
  omega
theorem short_lt {z : Int} (h : (digs z.natAbs).length ≤ 16) : (z.natAbs : Int) < 115792089237316195423570985008687907853269984665640564039457584007913129639936 := by
  have h1 := digs_lt z.natAbs
  have h2 : (65536 : Int) ^ (digs z.natAbs).length ≤ 65536 ^ 16 := by
    obtain ⟨t, ht⟩ : ∃ t, 16 = (digs z.natAbs).length + t := ⟨16 - (digs z.natAbs).length, by omega⟩
    rw [ht, Int.pow_add]
    have h5 : (0 : Int) < 65536 ^ t := Int.pow_pos (by decide)
    have h6 : (0 : Int) < 65536 ^ (digs z.natAbs).length := Int.pow_pos (by decide)
    have := Int.mul_le_mul_of_nonneg_left (show (1 : Int) ≤ 65536 ^ t by omega) (show (0 : Int) ≤ 65536 ^ (digs z.natAbs).length by omega)
    omega
  rw [p16] at h2
  omega
theorem less_16 {z : Int} (h : (digs z.natAbs).length < 16) : (z.natAbs : Int) < 1766847064778384329583297500742918515827483896875618958121606201292619776 := by
  have h1 := digs_lt z.natAbs
  have h2 : (65536 : Int) ^ (digs z.natAbs).length ≤ 65536 ^ 15 := by
    obtain ⟨t, ht⟩ : ∃ t, 15 = (digs z.natAbs).length + t := ⟨15 - (digs z.natAbs).length, by omega⟩
    rw [ht, Int.pow_add]
    have h5 : (0 : Int) < 65536 ^ t := Int.pow_pos (by decide)
    have h6 : (0 : Int) < 65536 ^ (digs z.natAbs).length := Int.pow_pos (by decide)
    have := Int.mul_le_mul_of_nonneg_left (show (1 : Int) ≤ 65536 ^ t by omega) (show (0 : Int) ≤ 65536 ^ (digs z.natAbs).length by omega)
    omega
  rw [p15] at h2
  omega
/-- the top digit tells, and what lies below it -/
theorem top_eq {z : Int} (h : (digs z.natAbs).length ≤ 16) : dg (digs z.natAbs) 15 = (z.natAbs : Int) / 1766847064778384329583297500742918515827483896875618958121606201292619776 := by
  have h1 := short_lt h
  rw [dg_digs]
  unfold frd
  rw [p15]
  omega
theorem fit_small {z : Int} (h : (digs z.natAbs).length ≤ 16) (k : ¬ ((digs z.natAbs).length = 16 ∧ 32768 ≤ dg (digs z.natAbs) 15)) : Fit z := by
  have h1 := top_eq h
  rw [h1] at k
  have h3 := short_lt h
  by_cases e : (digs z.natAbs).length = 16
  · have : ¬ 32768 ≤ (z.natAbs : Int) / 1766847064778384329583297500742918515827483896875618958121606201292619776 := fun h => k ⟨e, h⟩
    exact ⟨by omega, by omega⟩
  · have := less_16 (z := z) (by omega)
    exact ⟨by omega, by omega⟩
theorem fit_least {z : Int} (h : (digs z.natAbs).length ≤ 16) (k : 32768 ≤ dg (digs z.natAbs) 15) : Fit z ↔ (decide (z < 0) = true ∧ dg (digs z.natAbs) 15 = 32768 ∧ ∀ j, j < 15 → dg (digs z.natAbs) j = 0) := by
  have h1 := top_eq h
  have h3 := short_lt h
  rw [h1] at k ⊢
  constructor
  · rintro ⟨a, b⟩
    have hz : z = -57896044618658097711785492504343953926634992332820282019728792003956564819968 := by omega
    refine ⟨by simp; omega, by omega, fun j hj => ?_⟩
    rw [dg_digs]
    have hn : (z.natAbs : Int) = 57896044618658097711785492504343953926634992332820282019728792003956564819968 := by omega
    rw [hn]
    rcases upto16 (show j < 16 by omega) with rfl | rfl | rfl | rfl | rfl | rfl | rfl | rfl | rfl | rfl | rfl | rfl | rfl | rfl | rfl | rfl <;> first | rfl | decide | omega
  · rintro ⟨a, b, c⟩
    have h4 := low_zero z.natAbs 15 (fun j hj => by rw [← dg_digs]; exact c j hj)
    rw [p15] at h4
    have : z < 0 := by simpa using a
    exact ⟨by omega, by omega⟩

/-- the word of the number that round k adds to -/
def lw (V : Int) (k : Nat) : Int := if k < 4 then L0 V else if k < 8 then L1 V else if k < 12 then L2 V else L3 V
def wcs (V : Int) : Array Value := #[.int .u64 (L0 V), .int .u64 (L1 V), .int .u64 (L2 V), .int .u64 (L3 V)]
theorem wcs_get (V : Int) {k : Nat} (h : k < 16) : (wcs V)[k / 4]? = some (.int .u64 (lw V k)) := by
  rcases upto16 h with rfl | rfl | rfl | rfl | rfl | rfl | rfl | rfl | rfl | rfl | rfl | rfl | rfl | rfl | rfl | rfl <;> rfl
theorem wcs_set {V d : Int} {k : Nat} (h : k < 16) (h0 : 0 ≤ V) (h1 : V < 65536 ^ k) (h2 : 0 ≤ d) (h3 : d ≤ 65535) :
    (wcs V).setIfInBounds (k / 4) (.int .u64 (lw V k + d * 65536 ^ (k % 4))) = wcs (V + 65536 ^ k * d) ∧ 0 ≤ lw V k ∧ 0 ≤ d * 65536 ^ (k % 4) ∧ lw V k + d * 65536 ^ (k % 4) ≤ 18446744073709551615 := by
  rcases upto16 h with rfl | rfl | rfl | rfl | rfl | rfl | rfl | rfl | rfl | rfl | rfl | rfl | rfl | rfl | rfl | rfl <;> (simp at h1; simp [wcs, lw, L0, L1, L2, L3]; omega)
theorem words_16 {z : Int} (hz : Fit z) : wcs (vl (fr (z.natAbs : Int) (decide (z < 0)) 16).1) = wcs z := by
  obtain ⟨h1, h2, h3, h4, h5, h6⟩ := fr_ok (z.natAbs : Int) (decide (z < 0)) 16
  have hv := vl_nonneg h2
  have hl := vl_lt h2
  rw [h1] at hl
  rw [p16] at hl h5 h6
  obtain ⟨a, b⟩ := hz
  have e : vl (fr (z.natAbs : Int) (decide (z < 0)) 16).1 = z % 115792089237316195423570985008687907853269984665640564039457584007913129639936 := by
    by_cases hz : z < 0
    · have := h6 (by simpa using hz)
      omega
    · have := h5 (by simpa using hz)
      omega
  rw [e, ← num4_L]
  obtain ⟨a, b, c, d⟩ := L_num4 (W4.of z)
  unfold wcs
  rw [a, b, c, d]
end Go.Proofs.YtdnjkminicmffaaDoor
