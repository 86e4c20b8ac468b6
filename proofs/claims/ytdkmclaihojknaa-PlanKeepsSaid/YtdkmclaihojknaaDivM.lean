
/- Plain mathematics of long division, bit by bit. It speaks of no program. -/
import Derived.Test.YtdkmclaihojknaaShift
namespace Go.Proofs.Ytdkmclaihojknaa

theorem pow_pos2 (n : Nat) : (0 : Int) < 2 ^ n := Int.pow_pos (by decide)
theorem pow_succ2 (n : Nat) : (2 : Int) ^ (n + 1) = 2 * 2 ^ n := by rw [Int.pow_succ, Int.mul_comm]
/-- where the part that is taken away begins -/
theorem div_start (a b : Int) (la lb : Nat) (ha : a < 2 ^ la) (hb : b < 2 ^ lb) (hb1 : 1 ≤ lb) (hb2 : 2 ^ (lb - 1) ≤ b) (hl : lb ≤ la) (h256 : la ≤ 256) :
    a < b * 2 ^ (la - lb + 1) ∧ b * 2 ^ (la - lb) ≤ 115792089237316195423570985008687907853269984665640564039457584007913129639935 := by
  have e1 : (2 : Int) ^ la = 2 ^ (lb - 1) * 2 ^ (la - lb + 1) := by rw [← Int.pow_add]; congr 1; omega
  have e2 : (2 : Int) ^ la = 2 ^ lb * 2 ^ (la - lb) := by rw [← Int.pow_add]; congr 1; omega
  have p1 := pow_pos2 (la - lb + 1)
  have p2 := pow_pos2 (la - lb)
  have m1 := Int.mul_le_mul_of_nonneg_right hb2 (Int.le_of_lt p1)
  have m2 := Int.mul_lt_mul_of_pos_right hb p2
  have e3 : (2 : Int) ^ la ≤ 2 ^ 256 := by exact_mod_cast Nat.pow_le_pow_right (by omega : 0 < 2) h256
  have e4 : (2 : Int) ^ 256 = 115792089237316195423570985008687907853269984665640564039457584007913129639936 := by decide +kernel
  rw [← e1] at m1
  rw [← e2] at m2
  constructor <;> omega
theorem div_less (a b : Int) (la lb : Nat) (ha : a < 2 ^ la) (hb2 : 2 ^ (lb - 1) ≤ b) (hl : la < lb) : a < b := by
  have : (2 : Int) ^ la ≤ 2 ^ (lb - 1) := by exact_mod_cast Nat.pow_le_pow_right (by omega : 0 < 2) (by omega)
  omega
/-- how far the division has come: a is q b + r, r less than b times 2^n, which is twice the part -/
structure DivAt (a b q r : Int) (n : Nat) : Prop where
  eq : a = q * b + r
  r0 : 0 ≤ r
  lt : r < b * 2 ^ n
  q0 : 0 ≤ q
  low : q % 2 ^ n = 0
theorem DivAt.part (b : Int) (n : Nat) : b * 2 ^ (n + 1) / 2 = b * 2 ^ n := by
  rw [pow_succ2, ← Int.mul_assoc, Int.mul_comm b 2, Int.mul_assoc, Int.mul_ediv_cancel_left _ (by decide)]
theorem DivAt.take {a b q r : Int} {n : Nat} (h : DivAt a b q r (n + 1)) (hr : b * 2 ^ n ≤ r) : DivAt a b (q + 2 ^ n) (r - b * 2 ^ n) n := by
  obtain ⟨e, r0, lt, q0, low⟩ := h
  have p := pow_pos2 n
  rw [pow_succ2] at lt low
  refine ⟨?_, by omega, ?_, by omega, ?_⟩
  · rw [Int.add_mul, e, Int.mul_comm (2 ^ n) b]; omega
  · rw [← Int.mul_assoc, Int.mul_comm b 2, Int.mul_assoc] at lt; omega
  · have h1 := (Int.emod_emod_of_dvd q (show (2 ^ n : Int) ∣ 2 * 2 ^ n from Int.dvd_mul_left 2 (2 ^ n)))
    rw [low] at h1
    rw [Int.add_emod_right, ← h1]; exact Int.zero_emod _
theorem DivAt.pass {a b q r : Int} {n : Nat} (h : DivAt a b q r (n + 1)) (hr : r < b * 2 ^ n) : DivAt a b q r n := by
  obtain ⟨e, r0, lt, q0, low⟩ := h
  rw [pow_succ2] at low
  refine ⟨e, r0, hr, q0, ?_⟩
  have h1 := (Int.emod_emod_of_dvd q (show (2 ^ n : Int) ∣ 2 * 2 ^ n from Int.dvd_mul_left 2 (2 ^ n)))
  rw [low] at h1
  rw [← h1]; exact Int.zero_emod _
theorem DivAt.done {a b q r : Int} (h : DivAt a b q r 0) (hb : 0 < b) : q = a / b ∧ r = a % b := by
  obtain ⟨e, r0, lt, q0, low⟩ := h
  rw [show (2 : Int) ^ 0 = 1 from rfl, Int.mul_one] at lt
  have h1 : a / b = q := by
    rw [e, Int.add_comm, Int.add_mul_ediv_right _ _ (by omega), Int.ediv_eq_zero_of_lt r0 lt, Int.zero_add]
  have h2 := Int.emod_def a b
  rw [h1, Int.mul_comm, e] at h2
  constructor
  · exact h1.symm
  · rw [e, h2]; omega
theorem DivAt.siz {a b q r : Int} {n : Nat} (h : DivAt a b q r n) (ha : Siz a) (hb : 0 < b) : Siz q ∧ Siz r := by
  obtain ⟨e, r0, lt, q0, low⟩ := h
  obtain ⟨l, u⟩ := ha
  have k : q ≤ q * b := by
    have := Int.mul_le_mul_of_nonneg_left (show 1 ≤ b by omega) q0
    omega
  have k2 : 0 ≤ q * b := Int.mul_nonneg q0 (by omega)
  exact ⟨⟨q0, by omega⟩, ⟨r0, by omega⟩⟩
theorem DivAt.begin (a b : Int) (n : Nat) (ha : 0 ≤ a) (h : a < b * 2 ^ n) : DivAt a b 0 a n := ⟨by omega, ha, h, Int.le_refl 0, Int.zero_emod _⟩
theorem fits_word (x D E : Int) (hD : 0 < D) (hB : 2 * D * E = 18446744073709551616) (hx : x < 18446744073709551616) (hm : x % (2 * D) = 0) : x + D < 18446744073709551616 := by
  have e := Int.mul_ediv_add_emod x (2 * D)
  rw [hm, Int.add_zero] at e
  have l : x / (2 * D) < E := by
    apply Int.ediv_lt_of_lt_mul (by omega)
    rw [Int.mul_comm, hB]; exact hx
  have m := Int.mul_le_mul_of_nonneg_left (show x / (2 * D) + 1 ≤ E by omega) (show 0 ≤ 2 * D by omega)
  rw [Int.mul_add, e, hB] at m
  omega
theorem or_bit (x : Int) (m : Nat) (hm : m ≤ 63) (h0 : 0 ≤ x) (h1 : x ≤ 18446744073709551615) (hx : x % 2 ^ (m + 1) = 0) : bits .or .u64 x (2 ^ m) = x + 2 ^ m ∧ x + 2 ^ m ≤ 18446744073709551615 := by
  have p := pow_pos2 m
  have e : (2 : Int) * 2 ^ m * 2 ^ (63 - m) = 18446744073709551616 := by
    rw [← pow_succ2, ← Int.pow_add, show m + 1 + (63 - m) = 64 by omega]; rfl
  have l := fits_word x (2 ^ m) (2 ^ (63 - m)) p e (by omega) (by rw [← pow_succ2]; exact hx)
  refine ⟨bits_or_add x (2 ^ m) (m + 1) h0 h1 (Int.le_of_lt p) ?_ ?_ hx, by omega⟩
  · rw [pow_succ2]; omega
  · omega
/-- a bit set in a number that has none from there down -/
theorem L_bit0 (q : Int) (m : Nat) (hm : m ≤ 63) (hl : q % 2 ^ (m + 1) = 0) :
    bits .or .u64 (L0 q) (2 ^ m) = L0 (q + 2 ^ m) ∧ L1 q = L1 (q + 2 ^ m) ∧ L2 q = L2 (q + 2 ^ m) ∧ L3 q = L3 (q + 2 ^ m) := by
  have d : (2 : Int) ^ (m + 1) ∣ 18446744073709551616 := ⟨2 ^ (63 - m), by rw [← Int.pow_add, show m + 1 + (63 - m) = 64 by omega]; rfl⟩
  have h0 : L0 q % 2 ^ (m + 1) = 0 := by unfold L0; rw [Int.emod_emod_of_dvd q d]; exact hl
  obtain ⟨w0, w0', -, -, -, -, -, -⟩ := W4.of q
  obtain ⟨e, l⟩ := or_bit (L0 q) m hm w0 w0' h0
  rw [e]
  have p := pow_pos2 m
  generalize (2 : Int) ^ m = D at *
  unfold L0 L1 L2 L3 at *
  omega
theorem L_bit1 (q : Int) (m : Nat) (hm : m ≤ 63) (hl : q % (18446744073709551616 * 2 ^ (m + 1)) = 0) :
    L0 q = L0 (q + 18446744073709551616 * 2 ^ m) ∧ bits .or .u64 (L1 q) (2 ^ m) = L1 (q + 18446744073709551616 * 2 ^ m) ∧ L2 q = L2 (q + 18446744073709551616 * 2 ^ m) ∧ L3 q = L3 (q + 18446744073709551616 * 2 ^ m) := by
  have e := Int.mul_ediv_add_emod q (18446744073709551616 * 2 ^ (m + 1))
  rw [hl, Int.add_zero, Int.mul_assoc] at e
  have h := L_bit0 (q / 18446744073709551616) m hm (by rw [← e, Int.mul_ediv_cancel_left _ (by decide)]; exact Int.mul_emod_right _ _)
  generalize (2 : Int) ^ m = D at *
  have e1 : (q + 18446744073709551616 * D) / 18446744073709551616 = q / 18446744073709551616 + D := by omega
  unfold L0 L1 L2 L3 at *
  rw [e1]
  exact ⟨by omega, h.1, h.2.1, h.2.2.1⟩
theorem L_bit2 (q : Int) (m : Nat) (hm : m ≤ 63) (hl : q % (18446744073709551616 * (18446744073709551616 * 2 ^ (m + 1))) = 0) :
    L0 q = L0 (q + 18446744073709551616 * (18446744073709551616 * 2 ^ m)) ∧ L1 q = L1 (q + 18446744073709551616 * (18446744073709551616 * 2 ^ m)) ∧ bits .or .u64 (L2 q) (2 ^ m) = L2 (q + 18446744073709551616 * (18446744073709551616 * 2 ^ m)) ∧ L3 q = L3 (q + 18446744073709551616 * (18446744073709551616 * 2 ^ m)) := by
  have e := Int.mul_ediv_add_emod q (18446744073709551616 * (18446744073709551616 * 2 ^ (m + 1)))
  rw [hl, Int.add_zero, Int.mul_assoc] at e
  have h := L_bit1 (q / 18446744073709551616) m hm (by rw [← e, Int.mul_ediv_cancel_left _ (by decide)]; exact Int.mul_emod_right _ _)
  generalize (2 : Int) ^ m = D at *
  have e1 : (q + 18446744073709551616 * (18446744073709551616 * D)) / 18446744073709551616 = q / 18446744073709551616 + 18446744073709551616 * D := by omega
  unfold L0 L1 L2 L3 at *
  rw [e1]
  exact ⟨by omega, h.1, h.2.1, h.2.2.1⟩
theorem L_bit3 (q : Int) (m : Nat) (hm : m ≤ 63) (hl : q % (18446744073709551616 * (18446744073709551616 * (18446744073709551616 * 2 ^ (m + 1)))) = 0) :
    L0 q = L0 (q + 18446744073709551616 * (18446744073709551616 * (18446744073709551616 * 2 ^ m))) ∧ L1 q = L1 (q + 18446744073709551616 * (18446744073709551616 * (18446744073709551616 * 2 ^ m))) ∧ L2 q = L2 (q + 18446744073709551616 * (18446744073709551616 * (18446744073709551616 * 2 ^ m))) ∧ bits .or .u64 (L3 q) (2 ^ m) = L3 (q + 18446744073709551616 * (18446744073709551616 * (18446744073709551616 * 2 ^ m))) := by
  have e := Int.mul_ediv_add_emod q (18446744073709551616 * (18446744073709551616 * (18446744073709551616 * 2 ^ (m + 1))))
  rw [hl, Int.add_zero, Int.mul_assoc] at e
  have h := L_bit2 (q / 18446744073709551616) m hm (by rw [← e, Int.mul_ediv_cancel_left _ (by decide)]; exact Int.mul_emod_right _ _)
  generalize (2 : Int) ^ m = D at *
  have e1 : (q + 18446744073709551616 * (18446744073709551616 * (18446744073709551616 * D))) / 18446744073709551616 = q / 18446744073709551616 + 18446744073709551616 * (18446744073709551616 * D) := by omega
  unfold L0 L1 L2 L3 at *
  rw [e1]
  exact ⟨by omega, h.1, h.2.1, h.2.2.1⟩
theorem set_bit_0 (q mm : Int) (k : Nat) (hk : (k : Int) / 64 = 0) (hm : (k : Int) % 64 = mm) (hl : q % 2 ^ (k + 1) = 0) : bits .or .u64 (L0 q) (IntKind.u64.wrap (2 ^ mm.toNat)) = L0 (q + 2 ^ k) ∧ L1 q = L1 (q + 2 ^ k) ∧ L2 q = L2 (q + 2 ^ k) ∧ L3 q = L3 (q + 2 ^ k) := by
  have hmt : mm.toNat ≤ 63 := by omega
  have w : IntKind.u64.wrap (2 ^ mm.toNat) = 2 ^ mm.toNat := by
    rw [IntKind.wrap_u64]
    have p := pow_pos2 mm.toNat
    have l := (pow_split mm.toNat hmt)
    have l2 : (2 : Int) ^ mm.toNat ≤ 2 ^ 63 := by exact_mod_cast Nat.pow_le_pow_right (by omega : 0 < 2) hmt
    have l3 : (2 : Int) ^ 63 = 9223372036854775808 := by decide +kernel
    exact Int.emod_eq_of_lt (by omega) (by omega)
  have e : (2 : Int) ^ k = 2 ^ mm.toNat := by
    rw [show k = mm.toNat + 64 * 0 by omega, Int.pow_add, Int.pow_mul, show (2 : Int) ^ 64 = 18446744073709551616 from by decide +kernel]
    simp only [Int.pow_zero, Int.mul_one]
  have e' : (2 : Int) ^ (k + 1) = 2 ^ (mm.toNat + 1) := by
    rw [pow_succ2, e, pow_succ2]
  rw [w, e]
  rw [e'] at hl
  exact L_bit0 q mm.toNat hmt hl
theorem set_bit_1 (q mm : Int) (k : Nat) (hk : (k : Int) / 64 = 1) (hm : (k : Int) % 64 = mm) (hl : q % 2 ^ (k + 1) = 0) : L0 q = L0 (q + 2 ^ k) ∧ bits .or .u64 (L1 q) (IntKind.u64.wrap (2 ^ mm.toNat)) = L1 (q + 2 ^ k) ∧ L2 q = L2 (q + 2 ^ k) ∧ L3 q = L3 (q + 2 ^ k) := by
  have hmt : mm.toNat ≤ 63 := by omega
  have w : IntKind.u64.wrap (2 ^ mm.toNat) = 2 ^ mm.toNat := by
    rw [IntKind.wrap_u64]
    have p := pow_pos2 mm.toNat
    have l := (pow_split mm.toNat hmt)
    have l2 : (2 : Int) ^ mm.toNat ≤ 2 ^ 63 := by exact_mod_cast Nat.pow_le_pow_right (by omega : 0 < 2) hmt
    have l3 : (2 : Int) ^ 63 = 9223372036854775808 := by decide +kernel
    exact Int.emod_eq_of_lt (by omega) (by omega)
  have e : (2 : Int) ^ k = (18446744073709551616 * 2 ^ mm.toNat) := by
    rw [show k = mm.toNat + 64 * 1 by omega, Int.pow_add, Int.pow_mul, show (2 : Int) ^ 64 = 18446744073709551616 from by decide +kernel]
    simp only [Int.pow_succ, Int.pow_zero, Int.one_mul]
    generalize (2 : Int) ^ mm.toNat = D
    omega
  have e' : (2 : Int) ^ (k + 1) = (18446744073709551616 * 2 ^ (mm.toNat + 1)) := by
    rw [pow_succ2, e, pow_succ2]
    generalize (2 : Int) ^ mm.toNat = D
    omega
  rw [w, e]
  rw [e'] at hl
  exact L_bit1 q mm.toNat hmt hl
theorem set_bit_2 (q mm : Int) (k : Nat) (hk : (k : Int) / 64 = 2) (hm : (k : Int) % 64 = mm) (hl : q % 2 ^ (k + 1) = 0) : L0 q = L0 (q + 2 ^ k) ∧ L1 q = L1 (q + 2 ^ k) ∧ bits .or .u64 (L2 q) (IntKind.u64.wrap (2 ^ mm.toNat)) = L2 (q + 2 ^ k) ∧ L3 q = L3 (q + 2 ^ k) := by
  have hmt : mm.toNat ≤ 63 := by omega
  have w : IntKind.u64.wrap (2 ^ mm.toNat) = 2 ^ mm.toNat := by
    rw [IntKind.wrap_u64]
    have p := pow_pos2 mm.toNat
    have l := (pow_split mm.toNat hmt)
    have l2 : (2 : Int) ^ mm.toNat ≤ 2 ^ 63 := by exact_mod_cast Nat.pow_le_pow_right (by omega : 0 < 2) hmt
    have l3 : (2 : Int) ^ 63 = 9223372036854775808 := by decide +kernel
    exact Int.emod_eq_of_lt (by omega) (by omega)
  have e : (2 : Int) ^ k = (18446744073709551616 * (18446744073709551616 * 2 ^ mm.toNat)) := by
    rw [show k = mm.toNat + 64 * 2 by omega, Int.pow_add, Int.pow_mul, show (2 : Int) ^ 64 = 18446744073709551616 from by decide +kernel]
    simp only [Int.pow_succ, Int.pow_zero, Int.one_mul]
    generalize (2 : Int) ^ mm.toNat = D
    omega
  have e' : (2 : Int) ^ (k + 1) = (18446744073709551616 * (18446744073709551616 * 2 ^ (mm.toNat + 1))) := by
    rw [pow_succ2, e, pow_succ2]
    generalize (2 : Int) ^ mm.toNat = D
    omega
  rw [w, e]
  rw [e'] at hl
  exact L_bit2 q mm.toNat hmt hl
theorem set_bit_3 (q mm : Int) (k : Nat) (hk : (k : Int) / 64 = 3) (hm : (k : Int) % 64 = mm) (hl : q % 2 ^ (k + 1) = 0) : L0 q = L0 (q + 2 ^ k) ∧ L1 q = L1 (q + 2 ^ k) ∧ L2 q = L2 (q + 2 ^ k) ∧ bits .or .u64 (L3 q) (IntKind.u64.wrap (2 ^ mm.toNat)) = L3 (q + 2 ^ k) := by
  have hmt : mm.toNat ≤ 63 := by omega
  have w : IntKind.u64.wrap (2 ^ mm.toNat) = 2 ^ mm.toNat := by
    rw [IntKind.wrap_u64]
    have p := pow_pos2 mm.toNat
    have l := (pow_split mm.toNat hmt)
    have l2 : (2 : Int) ^ mm.toNat ≤ 2 ^ 63 := by exact_mod_cast Nat.pow_le_pow_right (by omega : 0 < 2) hmt
    have l3 : (2 : Int) ^ 63 = 9223372036854775808 := by decide +kernel
    exact Int.emod_eq_of_lt (by omega) (by omega)
  have e : (2 : Int) ^ k = (18446744073709551616 * (18446744073709551616 * (18446744073709551616 * 2 ^ mm.toNat))) := by
    rw [show k = mm.toNat + 64 * 3 by omega, Int.pow_add, Int.pow_mul, show (2 : Int) ^ 64 = 18446744073709551616 from by decide +kernel]
    simp only [Int.pow_succ, Int.pow_zero, Int.one_mul]
    generalize (2 : Int) ^ mm.toNat = D
    omega
  have e' : (2 : Int) ^ (k + 1) = (18446744073709551616 * (18446744073709551616 * (18446744073709551616 * 2 ^ (mm.toNat + 1)))) := by
    rw [pow_succ2, e, pow_succ2]
    generalize (2 : Int) ^ mm.toNat = D
    omega
  rw [w, e]
  rw [e'] at hl
  exact L_bit3 q mm.toNat hmt hl
/-- the words of a number, by their places -/
def Lf (z : Int) : Nat → Int
  | 0 => L0 z
  | 1 => L1 z
  | 2 => L2 z
  | _ => L3 z
end Go.Proofs.Ytdkmclaihojknaa
