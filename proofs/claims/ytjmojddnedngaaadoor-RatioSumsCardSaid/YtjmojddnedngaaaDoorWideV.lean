/- merged: Plain mathematics of long division, bit by bit. It speaks of no program. The contracts of wide.turned, Of, length. Conditions: those that each theorem names. The contract of wide.divide: the short ways. Conditions: sizes, b not nought. -/
import Derived.Test.YtjmojddnedngaaaDoorWideS
import Derived.Test.YtjmojddnedngaaaDoorShelf
import Derived.Test.YtjmojddnedngaaaDoorRefT
import Derived.Test.YtjmojddnedngaaaDoorFbA
import Derived.Lib.ItoaNum
import Derived.WalkSpells
import Derived.Handy
import Derived.Test.YtjmojddnedngaaaDoorWideC
section
namespace Go.Proofs.YtjmojddnedngaaaDoor

theorem pow_pos2 (n : Nat) : (0 : Int) < 2 ^ n := Int.pow_pos (by decide)
theorem pow_succ2 (n : Nat) : (2 : Int) ^ (n + 1) = 2 * 2 ^ n := by rw [Int.pow_succ, Int.mul_comm]
/-- where the part that is taken away begins -/
theorem div_start (a b : Int) (la lb : Nat) (ha : a < 2 ^ la) (hb : b < 2 ^ lb) (hb1 : 1 ≤ lb) (hb2 : 2 ^ (lb - 1) ≤ b) (hl : lb ≤ la) (h256 : la ≤ 256) :
    a < b * 2 ^ (la - lb + 1) ∧ b * 2 ^ (la - lb) ≤ 115792089237316195423570985008687907853269984665640564039457584007913129639935 := by
  have e1 : (2 : Int) ^ la = 2 ^ (lb - 1) * 2 ^ (la - lb + 1) := by rw [← Int.pow_add]; congr 1; omega
  have e2 : (2 : Int) ^ la = 2 ^ lb * 2 ^ (la - lb) := by rw [← Int.pow_add]; congr 1; omega
  have p1 := pow_pos2 (la - lb + 1)
  have p2 := pow_pos2 (la - lb)
  have m1 := Int.mul_le_mul_of_nonneg_right hb2 (Int.le_of_lt p1)
  have m2 := Int.mul_lt_mul_of_pos_right hb p2
  have e3 : (2 : Int) ^ la ≤ 2 ^ 256 := by exact_mod_cast Nat.pow_le_pow_right (by omega : 0 < 2) h256
  have e4 : (2 : Int) ^ 256 = 115792089237316195423570985008687907853269984665640564039457584007913129639936 := by decide +kernel
  rw [← e1] at m1
  rw [← e2] at m2
  constructor <;> omega
theorem div_less (a b : Int) (la lb : Nat) (ha : a < 2 ^ la) (hb2 : 2 ^ (lb - 1) ≤ b) (hl : la < lb) : a < b := by
  have : (2 : Int) ^ la ≤ 2 ^ (lb - 1) := by exact_mod_cast Nat.pow_le_pow_right (by omega : 0 < 2) (by omega)
  omega
/-- how far the division has come: a is q b + r, r less than b times 2^n, which is twice the part -/
structure DivAt (a b q r : Int) (n : Nat) : Prop where
  eq : a = q * b + r
  r0 : 0 ≤ r
  lt : r < b * 2 ^ n
  q0 : 0 ≤ q
  low : q % 2 ^ n = 0
theorem DivAt.part (b : Int) (n : Nat) : b * 2 ^ (n + 1) / 2 = b * 2 ^ n := by
  rw [pow_succ2, ← Int.mul_assoc, Int.mul_comm b 2, Int.mul_assoc, Int.mul_ediv_cancel_left _ (by decide)]
theorem DivAt.take {a b q r : Int} {n : Nat} (h : DivAt a b q r (n + 1)) (hr : b * 2 ^ n ≤ r) : DivAt a b (q + 2 ^ n) (r - b * 2 ^ n) n := by
  obtain ⟨e, r0, lt, q0, low⟩ := h
  have p := pow_pos2 n
  rw [pow_succ2] at lt low
  refine ⟨?_, by omega, ?_, by omega, ?_⟩
  · rw [Int.add_mul, e, Int.mul_comm (2 ^ n) b]; omega
  · rw [← Int.mul_assoc, Int.mul_comm b 2, Int.mul_assoc] at lt; omega
  · have h1 := (Int.emod_emod_of_dvd q (show (2 ^ n : Int) ∣ 2 * 2 ^ n from Int.dvd_mul_left 2 (2 ^ n)))
    rw [low] at h1
    rw [Int.add_emod_right, ← h1]; exact Int.zero_emod _
theorem DivAt.pass {a b q r : Int} {n : Nat} (h : DivAt a b q r (n + 1)) (hr : r < b * 2 ^ n) : DivAt a b q r n := by
  obtain ⟨e, r0, lt, q0, low⟩ := h
  rw [pow_succ2] at low
  refine ⟨e, r0, hr, q0, ?_⟩
  have h1 := (Int.emod_emod_of_dvd q (show (2 ^ n : Int) ∣ 2 * 2 ^ n from Int.dvd_mul_left 2 (2 ^ n)))
  rw [low] at h1
  rw [← h1]; exact Int.zero_emod _
theorem DivAt.done {a b q r : Int} (h : DivAt a b q r 0) (hb : 0 < b) : q = a / b ∧ r = a % b := by
  obtain ⟨e, r0, lt, q0, low⟩ := h
  rw [show (2 : Int) ^ 0 = 1 from rfl, Int.mul_one] at lt
  have h1 : a / b = q := by
    rw [e, Int.add_comm, Int.add_mul_ediv_right _ _ (by omega), Int.ediv_eq_zero_of_lt r0 lt, Int.zero_add]
  have h2 := Int.emod_def a b
  rw [h1, Int.mul_comm, e] at h2
  constructor
  · exact h1.symm
  · rw [e, h2]; omega
theorem DivAt.siz {a b q r : Int} {n : Nat} (h : DivAt a b q r n) (ha : Siz a) (hb : 0 < b) : Siz q ∧ Siz r := by
  obtain ⟨e, r0, lt, q0, low⟩ := h
  obtain ⟨l, u⟩ := ha
  have k : q ≤ q * b := by
    have := Int.mul_le_mul_of_nonneg_left (show 1 ≤ b by omega) q0
    omega
  have k2 : 0 ≤ q * b := Int.mul_nonneg q0 (by omega)
  exact ⟨⟨q0, by omega⟩, ⟨r0, by omega⟩⟩
theorem DivAt.begin (a b : Int) (n : Nat) (ha : 0 ≤ a) (h : a < b * 2 ^ n) : DivAt a b 0 a n := ⟨by omega, ha, h, Int.le_refl 0, Int.zero_emod _⟩
theorem fits_word (x D E : Int) (hD : 0 < D) (hB : 2 * D * E = 18446744073709551616) (hx : x < 18446744073709551616) (hm : x % (2 * D) = 0) : x + D < 18446744073709551616 := by
  have e := Int.mul_ediv_add_emod x (2 * D)
  rw [hm, Int.add_zero] at e
  have l : x / (2 * D) < E := by
    apply Int.ediv_lt_of_lt_mul (by omega)
    rw [Int.mul_comm, hB]; exact hx
  have m := Int.mul_le_mul_of_nonneg_left (show x / (2 * D) + 1 ≤ E by omega) (show 0 ≤ 2 * D by omega)
  rw [Int.mul_add, e, hB] at m
  omega
theorem or_bit (x : Int) (m : Nat) (hm : m ≤ 63) (h0 : 0 ≤ x) (h1 : x ≤ 18446744073709551615) (hx : x % 2 ^ (m + 1) = 0) : bits .or .u64 x (2 ^ m) = x + 2 ^ m ∧ x + 2 ^ m ≤ 18446744073709551615 := by
  have p := pow_pos2 m
  have e : (2 : Int) * 2 ^ m * 2 ^ (63 - m) = 18446744073709551616 := by
    rw [← pow_succ2, ← Int.pow_add, show m + 1 + (63 - m) = 64 by omega]; rfl
  have l := fits_word x (2 ^ m) (2 ^ (63 - m)) p e (by omega) (by rw [← pow_succ2]; exact hx)
  refine ⟨bits_or_add x (2 ^ m) (m + 1) h0 h1 (Int.le_of_lt p) ?_ ?_ hx, by omega⟩
  · rw [pow_succ2]; omega
  · omega
/-- a bit set in a number that has none from there down -/
theorem L_bit0 (q : Int) (m : Nat) (hm : m ≤ 63) (hl : q % 2 ^ (m + 1) = 0) :
    bits .or .u64 (L0 q) (2 ^ m) = L0 (q + 2 ^ m) ∧ L1 q = L1 (q + 2 ^ m) ∧ L2 q = L2 (q + 2 ^ m) ∧ L3 q = L3 (q + 2 ^ m) := by
  have d : (2 : Int) ^ (m + 1) ∣ 18446744073709551616 := ⟨2 ^ (63 - m), by rw [← Int.pow_add, show m + 1 + (63 - m) = 64 by omega]; rfl⟩
  have h0 : L0 q % 2 ^ (m + 1) = 0 := by unfold L0; rw [Int.emod_emod_of_dvd q d]; exact hl
  obtain ⟨w0, w0', -, -, -, -, -, -⟩ := W4.of q
  obtain ⟨e, l⟩ := or_bit (L0 q) m hm w0 w0' h0
  rw [e]
  have p := pow_pos2 m
  generalize (2 : Int) ^ m = D at *
  unfold L0 L1 L2 L3 at *
  omega
theorem L_bit1 (q : Int) (m : Nat) (hm : m ≤ 63) (hl : q % (18446744073709551616 * 2 ^ (m + 1)) = 0) :
    L0 q = L0 (q + 18446744073709551616 * 2 ^ m) ∧ bits .or .u64 (L1 q) (2 ^ m) = L1 (q + 18446744073709551616 * 2 ^ m) ∧ L2 q = L2 (q + 18446744073709551616 * 2 ^ m) ∧ L3 q = L3 (q + 18446744073709551616 * 2 ^ m) := by
  have e := Int.mul_ediv_add_emod q (18446744073709551616 * 2 ^ (m + 1))
  rw [hl, Int.add_zero, Int.mul_assoc] at e
  have h := L_bit0 (q / 18446744073709551616) m hm (by rw [← e, Int.mul_ediv_cancel_left _ (by decide)]; exact Int.mul_emod_right _ _)
  generalize (2 : Int) ^ m = D at *
  have e1 : (q + 18446744073709551616 * D) / 18446744073709551616 = q / 18446744073709551616 + D := by omega
  unfold L0 L1 L2 L3 at *
  rw [e1]
  exact ⟨by omega, h.1, h.2.1, h.2.2.1⟩
theorem L_bit2 (q : Int) (m : Nat) (hm : m ≤ 63) (hl : q % (18446744073709551616 * (18446744073709551616 * 2 ^ (m + 1))) = 0) :
    L0 q = L0 (q + 18446744073709551616 * (18446744073709551616 * 2 ^ m)) ∧ L1 q = L1 (q + 18446744073709551616 * (18446744073709551616 * 2 ^ m)) ∧ bits .or .u64 (L2 q) (2 ^ m) = L2 (q + 18446744073709551616 * (18446744073709551616 * 2 ^ m)) ∧ L3 q = L3 (q + 18446744073709551616 * (18446744073709551616 * 2 ^ m)) := by
  have e := Int.mul_ediv_add_emod q (18446744073709551616 * (18446744073709551616 * 2 ^ (m + 1)))
  rw [hl, Int.add_zero, Int.mul_assoc] at e
  have h := L_bit1 (q / 18446744073709551616) m hm (by rw [← e, Int.mul_ediv_cancel_left _ (by decide)]; exact Int.mul_emod_right _ _)
  generalize (2 : Int) ^ m = D at *
  have e1 : (q + 18446744073709551616 * (18446744073709551616 * D)) / 18446744073709551616 = q / 18446744073709551616 + 18446744073709551616 * D := by omega
  unfold L0 L1 L2 L3 at *
  rw [e1]
  exact ⟨by omega, h.1, h.2.1, h.2.2.1⟩
theorem L_bit3 (q : Int) (m : Nat) (hm : m ≤ 63) (hl : q % (18446744073709551616 * (18446744073709551616 * (18446744073709551616 * 2 ^ (m + 1)))) = 0) :
    L0 q = L0 (q + 18446744073709551616 * (18446744073709551616 * (18446744073709551616 * 2 ^ m))) ∧ L1 q = L1 (q + 18446744073709551616 * (18446744073709551616 * (18446744073709551616 * 2 ^ m))) ∧ L2 q = L2 (q + 18446744073709551616 * (18446744073709551616 * (18446744073709551616 * 2 ^ m))) ∧ bits .or .u64 (L3 q) (2 ^ m) = L3 (q + 18446744073709551616 * (18446744073709551616 * (18446744073709551616 * 2 ^ m))) := by
  have e := Int.mul_ediv_add_emod q (18446744073709551616 * (18446744073709551616 * (18446744073709551616 * 2 ^ (m + 1))))
  rw [hl, Int.add_zero, Int.mul_assoc] at e
  have h := L_bit2 (q / 18446744073709551616) m hm (by rw [← e, Int.mul_ediv_cancel_left _ (by decide)]; exact Int.mul_emod_right _ _)
  generalize (2 : Int) ^ m = D at *
  have e1 : (q + 18446744073709551616 * (18446744073709551616 * (18446744073709551616 * D))) / 18446744073709551616 = q / 18446744073709551616 + 18446744073709551616 * (18446744073709551616 * D) := by omega
  unfold L0 L1 L2 L3 at *
  rw [e1]
  exact ⟨by omega, h.1, h.2.1, h.2.2.1⟩
theorem set_bit_0 (q mm : Int) (k : Nat) (hk : (k : Int) / 64 = 0) (hm : (k : Int) % 64 = mm) (hl : q % 2 ^ (k + 1) = 0) : bits .or .u64 (L0 q) (IntKind.u64.wrap (2 ^ mm.toNat)) = L0 (q + 2 ^ k) ∧ L1 q = L1 (q + 2 ^ k) ∧ L2 q = L2 (q + 2 ^ k) ∧ L3 q = L3 (q + 2 ^ k) := by
  have hmt : mm.toNat ≤ 63 := by omega
  have w : IntKind.u64.wrap (2 ^ mm.toNat) = 2 ^ mm.toNat := by
    rw [IntKind.wrap_u64]
    have p := pow_pos2 mm.toNat
    have l := (pow_split mm.toNat hmt)
    have l2 : (2 : Int) ^ mm.toNat ≤ 2 ^ 63 := by exact_mod_cast Nat.pow_le_pow_right (by omega : 0 < 2) hmt
    have l3 : (2 : Int) ^ 63 = 9223372036854775808 := by decide +kernel
    exact Int.emod_eq_of_lt (by omega) (by omega)
  have e : (2 : Int) ^ k = 2 ^ mm.toNat := by
    rw [show k = mm.toNat + 64 * 0 by omega, Int.pow_add, Int.pow_mul, show (2 : Int) ^ 64 = 18446744073709551616 from by decide +kernel]
    simp only [Int.pow_zero, Int.mul_one]
  have e' : (2 : Int) ^ (k + 1) = 2 ^ (mm.toNat + 1) := by
    rw [pow_succ2, e, pow_succ2]
  rw [w, e]
  rw [e'] at hl
  exact L_bit0 q mm.toNat hmt hl
theorem set_bit_1 (q mm : Int) (k : Nat) (hk : (k : Int) / 64 = 1) (hm : (k : Int) % 64 = mm) (hl : q % 2 ^ (k + 1) = 0) : L0 q = L0 (q + 2 ^ k) ∧ bits .or .u64 (L1 q) (IntKind.u64.wrap (2 ^ mm.toNat)) = L1 (q + 2 ^ k) ∧ L2 q = L2 (q + 2 ^ k) ∧ L3 q = L3 (q + 2 ^ k) := by
  have hmt : mm.toNat ≤ 63 := by omega
  have w : IntKind.u64.wrap (2 ^ mm.toNat) = 2 ^ mm.toNat := by
    rw [IntKind.wrap_u64]
    have p := pow_pos2 mm.toNat
    have l := (pow_split mm.toNat hmt)
    have l2 : (2 : Int) ^ mm.toNat ≤ 2 ^ 63 := by exact_mod_cast Nat.pow_le_pow_right (by omega : 0 < 2) hmt
    have l3 : (2 : Int) ^ 63 = 9223372036854775808 := by decide +kernel
    exact Int.emod_eq_of_lt (by omega) (by omega)
  have e : (2 : Int) ^ k = (18446744073709551616 * 2 ^ mm.toNat) := by
    rw [show k = mm.toNat + 64 * 1 by omega, Int.pow_add, Int.pow_mul, show (2 : Int) ^ 64 = 18446744073709551616 from by decide +kernel]
    simp only [Int.pow_succ, Int.pow_zero, Int.one_mul]
    generalize (2 : Int) ^ mm.toNat = D
    omega
  have e' : (2 : Int) ^ (k + 1) = (18446744073709551616 * 2 ^ (mm.toNat + 1)) := by
    rw [pow_succ2, e, pow_succ2]
    generalize (2 : Int) ^ mm.toNat = D
    omega
  rw [w, e]
  rw [e'] at hl
  exact L_bit1 q mm.toNat hmt hl
theorem set_bit_2 (q mm : Int) (k : Nat) (hk : (k : Int) / 64 = 2) (hm : (k : Int) % 64 = mm) (hl : q % 2 ^ (k + 1) = 0) : L0 q = L0 (q + 2 ^ k) ∧ L1 q = L1 (q + 2 ^ k) ∧ bits .or .u64 (L2 q) (IntKind.u64.wrap (2 ^ mm.toNat)) = L2 (q + 2 ^ k) ∧ L3 q = L3 (q + 2 ^ k) := by
  have hmt : mm.toNat ≤ 63 := by omega
  have w : IntKind.u64.wrap (2 ^ mm.toNat) = 2 ^ mm.toNat := by
    rw [IntKind.wrap_u64]
    have p := pow_pos2 mm.toNat
    have l := (pow_split mm.toNat hmt)
    have l2 : (2 : Int) ^ mm.toNat ≤ 2 ^ 63 := by exact_mod_cast Nat.pow_le_pow_right (by omega : 0 < 2) hmt
    have l3 : (2 : Int) ^ 63 = 9223372036854775808 := by decide +kernel
    exact Int.emod_eq_of_lt (by omega) (by omega)
  have e : (2 : Int) ^ k = (18446744073709551616 * (18446744073709551616 * 2 ^ mm.toNat)) := by
    rw [show k = mm.toNat + 64 * 2 by omega, Int.pow_add, Int.pow_mul, show (2 : Int) ^ 64 = 18446744073709551616 from by decide +kernel]
    simp only [Int.pow_succ, Int.pow_zero, Int.one_mul]
    generalize (2 : Int) ^ mm.toNat = D
    omega
  have e' : (2 : Int) ^ (k + 1) = (18446744073709551616 * (18446744073709551616 * 2 ^ (mm.toNat + 1))) := by
    rw [pow_succ2, e, pow_succ2]
    generalize (2 : Int) ^ mm.toNat = D
    omega
  rw [w, e]
  rw [e'] at hl
  exact L_bit2 q mm.toNat hmt hl
theorem set_bit_3 (q mm : Int) (k : Nat) (hk : (k : Int) / 64 = 3) (hm : (k : Int) % 64 = mm) (hl : q % 2 ^ (k + 1) = 0) : L0 q = L0 (q + 2 ^ k) ∧ L1 q = L1 (q + 2 ^ k) ∧ L2 q = L2 (q + 2 ^ k) ∧ bits .or .u64 (L3 q) (IntKind.u64.wrap (2 ^ mm.toNat)) = L3 (q + 2 ^ k) := by
  have hmt : mm.toNat ≤ 63 := by omega
  have w : IntKind.u64.wrap (2 ^ mm.toNat) = 2 ^ mm.toNat := by
    rw [IntKind.wrap_u64]
    have p := pow_pos2 mm.toNat
    have l := (pow_split mm.toNat hmt)
    have l2 : (2 : Int) ^ mm.toNat ≤ 2 ^ 63 := by exact_mod_cast Nat.pow_le_pow_right (by omega : 0 < 2) hmt
    have l3 : (2 : Int) ^ 63 = 9223372036854775808 := by decide +kernel
    exact Int.emod_eq_of_lt (by omega) (by omega)
  have e : (2 : Int) ^ k = (18446744073709551616 * (18446744073709551616 * (18446744073709551616 * 2 ^ mm.toNat))) := by
    rw [show k = mm.toNat + 64 * 3 by omega, Int.pow_add, Int.pow_mul, show (2 : Int) ^ 64 = 18446744073709551616 from by decide +kernel]
    simp only [Int.pow_succ, Int.pow_zero, Int.one_mul]
    generalize (2 : Int) ^ mm.toNat = D
    omega
  have e' : (2 : Int) ^ (k + 1) = (18446744073709551616 * (18446744073709551616 * (18446744073709551616 * 2 ^ (mm.toNat + 1)))) := by
    rw [pow_succ2, e, pow_succ2]
    generalize (2 : Int) ^ mm.toNat = D
    omega
  rw [w, e]
  rw [e'] at hl
  exact L_bit3 q mm.toNat hmt hl
/-- the words of a number, by their places -/
def Lf (z : Int) : Nat → Int
  | 0 => L0 z
  | 1 => L1 z
  | 2 => L2 z
  | _ => L3 z
end Go.Proofs.YtjmojddnedngaaaDoor
end
section
namespace Go.Proofs.YtjmojddnedngaaaDoor
open Go.ChangeShapes Go.WideShapes Go.ChangeAt Go.RowKit
set_option linter.unusedVariables false

theorem L_of (n : Int) (h0 : -9223372036854775808 ≤ n) (h1 : n ≤ 9223372036854775807) : IntKind.u64.wrap n = L0 n ∧ IntKind.u64.wrap (n / 9223372036854775808) = L1 n ∧ IntKind.u64.wrap (n / 9223372036854775808) = L2 n ∧ IntKind.u64.wrap (n / 9223372036854775808) = L3 n := by
  simp only [IntKind.wrap_u64]
  unfold L0 L1 L2 L3
  by_cases h : n < 0
  · have e1 : n / 9223372036854775808 = -1 := by omega
    have e2 : n / 18446744073709551616 = -1 := by omega
    rw [e1, e2]; exact ⟨rfl, by decide, by decide, by decide⟩
  · have e1 : n / 9223372036854775808 = 0 := by omega
    have e2 : n / 18446744073709551616 = 0 := by omega
    rw [e1, e2]; exact ⟨rfl, by decide, by decide, by decide⟩
theorem of_any (n : Int) (h0 : -9223372036854775808 ≤ n) (h1 : n ≤ 9223372036854775807) (w : World) :
    Calls Tryd.prog 20 #[.int .i64 n] w fun e w' => e = .returned (.agg #[.int .u64 (L0 n), .int .u64 (L1 n), .int .u64 (L2 n), .int .u64 (L3 n)]) ∧ ∃ c1, w' = (w.alloc (.cells c1 24)) := by
  obtain ⟨t0, t1, t2, t3⟩ := L_of n h0 h1
  rw [← t0, ← t3]
  rw [show L1 n = IntKind.u64.wrap (n / 9223372036854775808) from t1.symm, show L2 n = IntKind.u64.wrap (n / 9223372036854775808) from t2.symm]
  clear t0 t1 t2 t3
  go_enter Tryd.func20, Tryd.ntmps20
  go_wp2
  exact bodyPost_ret (by simp [results, Tryd.results20, go_sem]) rfl ⟨rfl, _, rfl⟩
/-- how many bits a word needs, a number of four -/
def wl (x : Int) : Int := Lib.bitLen x.toNat
def bl4 (x0 x1 x2 x3 : Int) : Int := if x3 = 0 then if x2 = 0 then if x1 = 0 then wl x0 else 64 + wl x1 else 128 + wl x2 else 192 + wl x3
theorem wl_le (x : Int) (h0 : 0 ≤ x) (h1 : x ≤ 18446744073709551615) : 0 ≤ wl x ∧ wl x ≤ 64 ∧ x < 2 ^ (wl x).toNat ∧ (x = 0 → wl x = 0) ∧ (x ≠ 0 → 1 ≤ wl x ∧ 2 ^ (wl x - 1).toNat ≤ x) := by
  obtain ⟨n, rfl⟩ := Int.eq_ofNat_of_zero_le h0
  unfold wl Lib.bitLen
  by_cases hn : n = 0
  · subst hn
    simp [Lib.bitLenAux]
  · obtain ⟨b1, b2, b3⟩ := Lib.bitLenAux_bounds 64 n (by omega) hn
    have b4 : Lib.bitLenAux 64 n ≤ 64 := Lib.bitLenAux_le 64 n 64 (by omega)
    have en : ((n : Int).toNat) = n := by omega
    rw [en]
    generalize Lib.bitLenAux 64 n = l at *
    refine ⟨by omega, by omega, ?_, by omega, fun _ => ⟨by omega, ?_⟩⟩
    · have : ((2 : Int) ^ (l : Int).toNat) = ((2 ^ l : Nat) : Int) := by rw [Int.toNat_natCast]; push_cast; rfl
      rw [this]; omega
    · have : ((2 : Int) ^ ((l : Int) - 1).toNat) = ((2 ^ (l - 1) : Nat) : Int) := by rw [show ((l : Int) - 1).toNat = l - 1 by omega]; push_cast; rfl
      rw [this]; omega
theorem length_gen (x0 x1 x2 x3 : Int) (h : W4 x0 x1 x2 x3) (w : World) :
    Calls Tryd.prog 55 #[.agg #[.int .u64 x0, .int .u64 x1, .int .u64 x2, .int .u64 x3]] w fun e w' => e = .returned (.int .i64 (bl4 x0 x1 x2 x3)) ∧ ∃ c1, w' = (w.alloc (.cells c1 58)) := by
  obtain ⟨a0, b0, a1, b1, a2, b2, a3, b3⟩ := h
  obtain ⟨k0, l0, _⟩ := wl_le x0 a0 b0
  obtain ⟨k1, l1, _⟩ := wl_le x1 a1 b1
  obtain ⟨k2, l2, _⟩ := wl_le x2 a2 b2
  obtain ⟨k3, l3, _⟩ := wl_le x3 a3 b3
  have LN : ∀ (x : Int), 0 ≤ x → x ≤ 18446744073709551615 → ∀ w, Calls Tryd.prog 66 #[.int .u64 x] w fun e w' => e = .returned (.int .i64 (wl x)) ∧ w' = w := fun x h0 h1 w => Tryd.bits_Len64 x w h0 h1
  have N0 := Lib.hid (LN x0 a0 b0); have N1 := Lib.hid (LN x1 a1 b1); have N2 := Lib.hid (LN x2 a2 b2); have N3 := Lib.hid (LN x3 a3 b3)
  clear LN
  by_cases e3 : x3 = 0
  · by_cases e2 : x2 = 0
    · by_cases e1 : x1 = 0
      · have E : bl4 x0 x1 x2 x3 = wl x0 := by simp [bl4, e1, e2, e3]
        have d1 : (x1 != 0) = false := by simpa using e1
        have d2 : (x2 != 0) = false := by simpa using e2
        have d3 : (x3 != 0) = false := by simpa using e3
        rw [E]
        clear e1 e2 e3 E
        generalize wl x0 = v at *
        go_enter Tryd.func55, Tryd.ntmps55
        go_wp2
        refine wp_loop_rounds 5 ?_
        rw [rounds_succ]
        go_wp2
        rw [rounds_succ]
        go_wp2
        rw [rounds_succ]
        go_wp2
        rw [rounds_succ]
        go_wp2_with (go_at_call 66; refine (N0.out _).mono ?_; rintro e w' ⟨rfl, rfl⟩)
        go_ret
        exact ⟨rfl, _, rfl⟩
      · have E : bl4 x0 x1 x2 x3 = 64 + wl x1 := by simp [bl4, e1, e2, e3]
        have d1 : (x1 != 0) = true := by simpa using e1
        have d2 : (x2 != 0) = false := by simpa using e2
        have d3 : (x3 != 0) = false := by simpa using e3
        rw [E]
        clear e1 e2 e3 E
        generalize wl x1 = v at *
        go_enter Tryd.func55, Tryd.ntmps55
        go_wp2
        refine wp_loop_rounds 5 ?_
        rw [rounds_succ]
        go_wp2
        rw [rounds_succ]
        go_wp2
        rw [rounds_succ]
        go_wp2_with (go_at_call 66; refine (N1.out _).mono ?_; rintro e w' ⟨rfl, rfl⟩)
        go_ret
        exact ⟨rfl, _, rfl⟩
    · have E : bl4 x0 x1 x2 x3 = 128 + wl x2 := by simp [bl4, e2, e3]
      have d2 : (x2 != 0) = true := by simpa using e2
      have d3 : (x3 != 0) = false := by simpa using e3
      rw [E]
      clear e2 e3 E
      generalize wl x2 = v at *
      go_enter Tryd.func55, Tryd.ntmps55
      go_wp2
      refine wp_loop_rounds 5 ?_
      rw [rounds_succ]
      go_wp2
      rw [rounds_succ]
      go_wp2_with (go_at_call 66; refine (N2.out _).mono ?_; rintro e w' ⟨rfl, rfl⟩)
      go_ret
      exact ⟨rfl, _, rfl⟩
  · have E : bl4 x0 x1 x2 x3 = 192 + wl x3 := by simp [bl4, e3]
    have d3 : (x3 != 0) = true := by simpa using e3
    rw [E]
    clear e3 E
    generalize wl x3 = v at *
    go_enter Tryd.func55, Tryd.ntmps55
    go_wp2
    refine wp_loop_rounds 5 ?_
    rw [rounds_succ]
    go_wp2_with (go_at_call 66; refine (N3.out _).mono ?_; rintro e w' ⟨rfl, rfl⟩)
    go_ret
    exact ⟨rfl, _, rfl⟩
/-- how many bits a number needs -/
def blz (a : Int) : Int := bl4 (L0 a) (L1 a) (L2 a) (L3 a)
theorem length_any (a : Int) (w : World) : Calls Tryd.prog 55 #[.agg #[.int .u64 (L0 a), .int .u64 (L1 a), .int .u64 (L2 a), .int .u64 (L3 a)]] w fun e w' => e = .returned (.int .i64 (blz a)) ∧ ∃ c1, w' = (w.alloc (.cells c1 58)) := length_gen _ _ _ _ (W4.of a) w
theorem pow_up (n : Nat) (l : Int) (h : 0 ≤ l) : (2 : Int) ^ ((n : Int) + l).toNat = 2 ^ n * 2 ^ l.toNat := by
  rw [show ((n : Int) + l).toNat = n + l.toNat by omega, Int.pow_add]
theorem bl_prop (a : Int) (h : Siz a) : 0 ≤ blz a ∧ blz a ≤ 256 ∧ a < 2 ^ (blz a).toNat ∧ (a ≠ 0 → 1 ≤ blz a ∧ 2 ^ (blz a - 1).toNat ≤ a) := by
  obtain ⟨a0, b0, a1, b1, a2, b2, a3, b3⟩ := W4.of a
  obtain ⟨h0, h1⟩ := h
  have e : a = L0 a + 18446744073709551616 * L1 a + 340282366920938463463374607431768211456 * L2 a + 6277101735386680763835789423207666416102355444464034512896 * L3 a := by unfold L0 L1 L2 L3; omega
  unfold blz bl4
  obtain ⟨k0, l0, m0, n0, o0⟩ := wl_le _ a0 b0
  obtain ⟨k1, l1, m1, n1, o1⟩ := wl_le _ a1 b1
  obtain ⟨k2, l2, m2, n2, o2⟩ := wl_le _ a2 b2
  obtain ⟨k3, l3, m3, n3, o3⟩ := wl_le _ a3 b3
  generalize L0 a = x0 at *; generalize L1 a = x1 at *; generalize L2 a = x2 at *; generalize L3 a = x3 at *
  have p1 : (2 : Int) ^ 64 = 18446744073709551616 := by decide +kernel
  have p2 : (2 : Int) ^ 128 = 340282366920938463463374607431768211456 := by decide +kernel
  have p3 : (2 : Int) ^ 192 = 6277101735386680763835789423207666416102355444464034512896 := by decide +kernel
  by_cases e3 : x3 = 0
  · rw [if_pos e3]
    by_cases e2 : x2 = 0
    · rw [if_pos e2]
      by_cases e1 : x1 = 0
      · rw [if_pos e1]
        refine ⟨k0, by omega, by omega, fun hn => ?_⟩
        obtain ⟨q1, q2⟩ := o0 (by omega)
        exact ⟨q1, by omega⟩
      · rw [if_neg e1]
        obtain ⟨q1, q2⟩ := o1 e1
        have r1 := pow_up 64 (wl x1) k1
        have r2 := pow_up 64 (wl x1 - 1) (by omega)
        rw [p1] at r1 r2
        have r3 : (((64 : Nat) : Int) + (wl x1 - 1)) = 64 + wl x1 - 1 := by omega
        rw [r3] at r2
        refine ⟨by omega, by omega, ?_, fun _ => ⟨by omega, ?_⟩⟩
        · rw [show (64 + wl x1).toNat = (((64 : Nat) : Int) + wl x1).toNat from rfl, r1]; omega
        · rw [r2]; omega
    · rw [if_neg e2]
      obtain ⟨q1, q2⟩ := o2 e2
      have r1 := pow_up 128 (wl x2) k2
      have r2 := pow_up 128 (wl x2 - 1) (by omega)
      rw [p2] at r1 r2
      have r3 : (((128 : Nat) : Int) + (wl x2 - 1)) = 128 + wl x2 - 1 := by omega
      rw [r3] at r2
      refine ⟨by omega, by omega, ?_, fun _ => ⟨by omega, ?_⟩⟩
      · rw [show (128 + wl x2).toNat = (((128 : Nat) : Int) + wl x2).toNat from rfl, r1]; omega
      · rw [r2]; omega
  · rw [if_neg e3]
    obtain ⟨q1, q2⟩ := o3 e3
    have r1 := pow_up 192 (wl x3) k3
    have r2 := pow_up 192 (wl x3 - 1) (by omega)
    rw [p3] at r1 r2
    have r3 : (((192 : Nat) : Int) + (wl x3 - 1)) = 192 + wl x3 - 1 := by omega
    rw [r3] at r2
    refine ⟨by omega, by omega, ?_, fun _ => ⟨by omega, ?_⟩⟩
    · rw [show (192 + wl x3).toNat = (((192 : Nat) : Int) + wl x3).toNat from rfl, r1]; omega
    · rw [r2]; omega
end Go.Proofs.YtjmojddnedngaaaDoor
end
section
namespace Go.Proofs.YtjmojddnedngaaaDoor
open Go.ChangeShapes Go.WideShapes Go.ChangeAt Go.RowKit
set_option linter.unusedVariables false

theorem minus_b (a b : Int) (w : World) :
    Calls Tryd.prog 29 #[.agg #[.int .u64 (L0 a), .int .u64 (L1 a), .int .u64 (L2 a), .int .u64 (L3 a)], .agg #[.int .u64 (L0 b), .int .u64 (L1 b), .int .u64 (L2 b), .int .u64 (L3 b)]] w fun e w' => e = .returned (.agg #[.int .u64 (L0 (a - b)), .int .u64 (L1 (a - b)), .int .u64 (L2 (a - b)), .int .u64 (L3 (a - b))]) ∧ Below w.heap.size w w' :=
  (minus_any a b w).mono fun e w' ⟨he, c1, c2, c3, c4, m, hw⟩ => ⟨he, by rw [hw]; repeat' (first | (with_reducible exact Below.refl _ _) | (with_reducible assumption) | (with_reducible refine below_drewN ?_ _) | (with_reducible refine Below.drew ?_) | (with_reducible refine Below.alloc ?_ ?_ _) | (with_reducible refine Below.setCell ?_ ?_ _) | (with_reducible refine then_ ?_ (by with_reducible assumption) ?_) | (with_reducible exact Nat.le_refl _) | (with_reducible exact Nat.le_succ _) | (with_reducible exact Nat.le_succ_of_le (by with_reducible assumption)) | omega | (simp; done) | (simp; omega) | (exact Nat.le_succ _) | (exact Nat.le_succ_of_le (by with_reducible assumption)))⟩
theorem down_b (a n : Int) (h : Siz a) (hn : 0 ≤ n) (hn' : n ≤ 9223372036854775807) (w : World) :
    Calls Tryd.prog 58 #[.agg #[.int .u64 (L0 a), .int .u64 (L1 a), .int .u64 (L2 a), .int .u64 (L3 a)], .int .i64 n] w fun e w' => e = .returned (.agg #[.int .u64 (L0 (a / 2 ^ n.toNat)), .int .u64 (L1 (a / 2 ^ n.toNat)), .int .u64 (L2 (a / 2 ^ n.toNat)), .int .u64 (L3 (a / 2 ^ n.toNat))]) ∧ Below w.heap.size w w' :=
  (down_any a n h hn hn' w).mono fun e w' ⟨he, c1, c2, c3, m, hw⟩ => ⟨he, by rw [hw]; repeat' (first | (with_reducible exact Below.refl _ _) | (with_reducible assumption) | (with_reducible refine below_drewN ?_ _) | (with_reducible refine Below.drew ?_) | (with_reducible refine Below.alloc ?_ ?_ _) | (with_reducible refine Below.setCell ?_ ?_ _) | (with_reducible refine then_ ?_ (by with_reducible assumption) ?_) | (with_reducible exact Nat.le_refl _) | (with_reducible exact Nat.le_succ _) | (with_reducible exact Nat.le_succ_of_le (by with_reducible assumption)) | omega | (simp; done) | (simp; omega) | (exact Nat.le_succ _) | (exact Nat.le_succ_of_le (by with_reducible assumption)))⟩
theorem cmp_siz {r s : Int} (hr : Siz r) (hs : Siz s) : cmpW (Lf r) (Lf s) 4 = if r < s then -1 else if s < r then 1 else 0 := by
  obtain ⟨h0, h1⟩ := hr; obtain ⟨h2, h3⟩ := hs
  have e : ∀ z : Int, 0 ≤ z → z ≤ 115792089237316195423570985008687907853269984665640564039457584007913129639935 → z = L0 z + 18446744073709551616 * L1 z + 340282366920938463463374607431768211456 * L2 z + 6277101735386680763835789423207666416102355444464034512896 * L3 z := fun z _ _ => by unfold L0 L1 L2 L3; omega
  have er := e r h0 h1; have es := e s h2 h3
  obtain ⟨a0, b0, a1, b1, a2, b2, a3, b3⟩ := W4.of r
  obtain ⟨c0, d0, c1, d1, c2, d2, c3, d3⟩ := W4.of s
  unfold cmpW cmpW cmpW cmpW cmpW Lf
  simp only []
  generalize L0 r = x0 at *; generalize L1 r = x1 at *; generalize L2 r = x2 at *; generalize L3 r = x3 at *
  generalize L0 s = y0 at *; generalize L1 s = y1 at *; generalize L2 s = y2 at *; generalize L3 s = y3 at *
  repeat' split
  all_goals first | rfl | omega
theorem eq_first (x0 x1 x2 x3 : Int) (w : World) : (Op.equalIn 10000 58 (.agg #[.int .u64 x0, .int .u64 x1, .int .u64 x2, .int .u64 x3]) (.agg #[.int .u64 x0, .int .u64 0, .int .u64 0, .int .u64 0])).run Tryd.prog w = .ok (decide (x1 = 0 ∧ x2 = 0 ∧ x3 = 0)) w := by
  rw [eq_size]; simp
set_option maxRecDepth 20000 in
theorem divide_small (x y : Int) (h0 : 0 ≤ x) (h1 : x ≤ 18446744073709551615) (h2 : 0 < y) (h3 : y ≤ 18446744073709551615) (w : World) :
    Calls Tryd.prog 51 #[.agg #[.int .u64 x, .int .u64 0, .int .u64 0, .int .u64 0], .agg #[.int .u64 y, .int .u64 0, .int .u64 0, .int .u64 0]] w fun e w' =>
      e = .returned (.tuple #[.agg #[.int .u64 (x / y), .int .u64 0, .int .u64 0, .int .u64 0], .agg #[.int .u64 (x % y), .int .u64 0, .int .u64 0, .int .u64 0]]) ∧ Below w.heap.size w w' := by
  have EA : ∀ w, (Op.equalIn 10000 58 (.agg #[.int .u64 x, .int .u64 0, .int .u64 0, .int .u64 0]) (.agg #[.int .u64 x, .int .u64 0, .int .u64 0, .int .u64 0])).run Tryd.prog w = .ok true w := fun w => by rw [eq_first]; rfl
  have EB : ∀ w, (Op.equalIn 10000 58 (.agg #[.int .u64 y, .int .u64 0, .int .u64 0, .int .u64 0]) (.agg #[.int .u64 y, .int .u64 0, .int .u64 0, .int .u64 0])).run Tryd.prog w = .ok true w := fun w => by rw [eq_first]; rfl
  have d : (y == 0) = false := by simpa using (by omega : y ≠ 0)
  go_enter Tryd.func51, Tryd.ntmps51
  go_wp2
  go_region
  all_goals go_wp2
  try simp only [setCell_drawn]
  refine bodyPost_ret (by simp [results, Tryd.results51, go_sem]) rfl ⟨rfl, ?_⟩
  repeat' (first | (with_reducible exact Below.refl _ _) | (with_reducible assumption) | (with_reducible refine below_drewN ?_ _) | (with_reducible refine Below.drew ?_) | (with_reducible refine Below.alloc ?_ ?_ _) | (with_reducible refine Below.setCell ?_ ?_ _) | (with_reducible refine then_ ?_ (by with_reducible assumption) ?_) | (with_reducible exact Nat.le_refl _) | (with_reducible exact Nat.le_succ _) | (with_reducible exact Nat.le_succ_of_le (by with_reducible assumption)) | omega | (simp; done) | (simp; omega) | (exact Nat.le_succ _) | (exact Nat.le_succ_of_le (by with_reducible assumption)))
set_option maxHeartbeats 1600000 in
set_option maxRecDepth 20000 in
theorem divide_less_f (a b : Int) (hsa : decide (L1 a = 0 ∧ L2 a = 0 ∧ L3 a = 0) = false) (la lb : Int) (hla : blz a = la) (hlb : blz b = lb) (ha : 0 ≤ la) (ha2 : la ≤ 256) (hb : lb ≤ 256) (hb0 : 0 ≤ lb) (hl : la < lb) (w : World) :
    Calls Tryd.prog 51 #[.agg #[.int .u64 (L0 a), .int .u64 (L1 a), .int .u64 (L2 a), .int .u64 (L3 a)], .agg #[.int .u64 (L0 b), .int .u64 (L1 b), .int .u64 (L2 b), .int .u64 (L3 b)]] w fun e w' => e = .returned (.tuple #[.agg #[.int .u64 0, .int .u64 0, .int .u64 0, .int .u64 0], .agg #[.int .u64 (L0 a), .int .u64 (L1 a), .int .u64 (L2 a), .int .u64 (L3 a)]]) ∧ Below w.heap.size w w' := by
  have EA : ∀ w, (Op.equalIn 10000 58 (.agg #[.int .u64 (L0 a), .int .u64 (L1 a), .int .u64 (L2 a), .int .u64 (L3 a)]) (.agg #[.int .u64 (L0 a), .int .u64 0, .int .u64 0, .int .u64 0])).run Tryd.prog w = .ok false w := fun w => by rw [eq_first, hsa]
  have LA := Lib.hid (fun w => length_any a w); rw [hla] at LA
  have LB := Lib.hid (fun w => length_any b w); rw [hlb] at LB
  clear hla hlb hsa
  generalize L0 a = x0 at *; generalize L1 a = x1 at *; generalize L2 a = x2 at *; generalize L3 a = x3 at *
  generalize L0 b = y0 at *; generalize L1 b = y1 at *; generalize L2 b = y2 at *; generalize L3 b = y3 at *
  · go_enter Tryd.func51, Tryd.ntmps51
    go_wp2
    go_region_held3 (fun W => W.cell? ⟨w.heap.size, 0, none⟩ = some (.int .u64 x0) ∧ W.cell? ⟨w.heap.size, 1, none⟩ = some (.int .u64 x1) ∧ W.cell? ⟨w.heap.size, 2, none⟩ = some (.int .u64 x2) ∧ W.cell? ⟨w.heap.size, 3, none⟩ = some (.int .u64 x3) ∧ W.cell? ⟨w.heap.size + 1, 0, none⟩ = some (.int .u64 y0) ∧ W.cell? ⟨w.heap.size + 1, 1, none⟩ = some (.int .u64 y1) ∧ W.cell? ⟨w.heap.size + 1, 2, none⟩ = some (.int .u64 y2) ∧ W.cell? ⟨w.heap.size + 1, 3, none⟩ = some (.int .u64 y3)) (simp [go_sem, World.cell?_alloc_past])
      (first
        | (go_at_call 55; with_reducible refine (LA.out _).mono ?_; rintro e w2 ⟨rfl, c, rfl⟩)
        | (go_at_call 55; with_reducible refine (LB.out _).mono ?_; rintro e w2 ⟨rfl, c, rfl⟩))
    rename_i hh; clear hh
    go_wp2
    go_region
    all_goals go_wp2
    try simp only [setCell_drawn]
    refine bodyPost_ret (by simp [results, Tryd.results51, go_sem]) rfl ⟨rfl, ?_⟩
    repeat' (first | (with_reducible exact Below.refl _ _) | (with_reducible assumption) | (with_reducible refine below_drewN ?_ _) | (with_reducible refine Below.drew ?_) | (with_reducible refine Below.alloc ?_ ?_ _) | (with_reducible refine Below.setCell ?_ ?_ _) | (with_reducible refine then_ ?_ (by with_reducible assumption) ?_) | (with_reducible exact Nat.le_refl _) | (with_reducible exact Nat.le_succ _) | (with_reducible exact Nat.le_succ_of_le (by with_reducible assumption)) | omega | (simp; done) | (simp; omega) | (exact Nat.le_succ _) | (exact Nat.le_succ_of_le (by with_reducible assumption)))
set_option maxHeartbeats 1600000 in
set_option maxRecDepth 20000 in
theorem divide_less_t (a b : Int) (hsa : decide (L1 a = 0 ∧ L2 a = 0 ∧ L3 a = 0) = true) (hsb : decide (L1 b = 0 ∧ L2 b = 0 ∧ L3 b = 0) = false) (la lb : Int) (hla : blz a = la) (hlb : blz b = lb) (ha : 0 ≤ la) (ha2 : la ≤ 256) (hb : lb ≤ 256) (hb0 : 0 ≤ lb) (hl : la < lb) (w : World) :
    Calls Tryd.prog 51 #[.agg #[.int .u64 (L0 a), .int .u64 (L1 a), .int .u64 (L2 a), .int .u64 (L3 a)], .agg #[.int .u64 (L0 b), .int .u64 (L1 b), .int .u64 (L2 b), .int .u64 (L3 b)]] w fun e w' => e = .returned (.tuple #[.agg #[.int .u64 0, .int .u64 0, .int .u64 0, .int .u64 0], .agg #[.int .u64 (L0 a), .int .u64 (L1 a), .int .u64 (L2 a), .int .u64 (L3 a)]]) ∧ Below w.heap.size w w' := by
  have EA : ∀ w, (Op.equalIn 10000 58 (.agg #[.int .u64 (L0 a), .int .u64 (L1 a), .int .u64 (L2 a), .int .u64 (L3 a)]) (.agg #[.int .u64 (L0 a), .int .u64 0, .int .u64 0, .int .u64 0])).run Tryd.prog w = .ok true w := fun w => by rw [eq_first, hsa]
  have EB : ∀ w, (Op.equalIn 10000 58 (.agg #[.int .u64 (L0 b), .int .u64 (L1 b), .int .u64 (L2 b), .int .u64 (L3 b)]) (.agg #[.int .u64 (L0 b), .int .u64 0, .int .u64 0, .int .u64 0])).run Tryd.prog w = .ok false w := fun w => by rw [eq_first, hsb]
  have LA := Lib.hid (fun w => length_any a w); rw [hla] at LA
  have LB := Lib.hid (fun w => length_any b w); rw [hlb] at LB
  clear hla hlb hsa hsb
  generalize L0 a = x0 at *; generalize L1 a = x1 at *; generalize L2 a = x2 at *; generalize L3 a = x3 at *
  generalize L0 b = y0 at *; generalize L1 b = y1 at *; generalize L2 b = y2 at *; generalize L3 b = y3 at *
  · go_enter Tryd.func51, Tryd.ntmps51
    go_wp2
    go_region_held3 (fun W => W.cell? ⟨w.heap.size, 0, none⟩ = some (.int .u64 x0) ∧ W.cell? ⟨w.heap.size, 1, none⟩ = some (.int .u64 x1) ∧ W.cell? ⟨w.heap.size, 2, none⟩ = some (.int .u64 x2) ∧ W.cell? ⟨w.heap.size, 3, none⟩ = some (.int .u64 x3) ∧ W.cell? ⟨w.heap.size + 1, 0, none⟩ = some (.int .u64 y0) ∧ W.cell? ⟨w.heap.size + 1, 1, none⟩ = some (.int .u64 y1) ∧ W.cell? ⟨w.heap.size + 1, 2, none⟩ = some (.int .u64 y2) ∧ W.cell? ⟨w.heap.size + 1, 3, none⟩ = some (.int .u64 y3)) (simp [go_sem, World.cell?_alloc_past])
      (first
        | (go_at_call 55; with_reducible refine (LA.out _).mono ?_; rintro e w2 ⟨rfl, c, rfl⟩)
        | (go_at_call 55; with_reducible refine (LB.out _).mono ?_; rintro e w2 ⟨rfl, c, rfl⟩))
    rename_i hh; clear hh
    go_wp2
    go_region
    all_goals go_wp2
    try simp only [setCell_drawn]
    refine bodyPost_ret (by simp [results, Tryd.results51, go_sem]) rfl ⟨rfl, ?_⟩
    repeat' (first | (with_reducible exact Below.refl _ _) | (with_reducible assumption) | (with_reducible refine below_drewN ?_ _) | (with_reducible refine Below.drew ?_) | (with_reducible refine Below.alloc ?_ ?_ _) | (with_reducible refine Below.setCell ?_ ?_ _) | (with_reducible refine then_ ?_ (by with_reducible assumption) ?_) | (with_reducible exact Nat.le_refl _) | (with_reducible exact Nat.le_succ _) | (with_reducible exact Nat.le_succ_of_le (by with_reducible assumption)) | omega | (simp; done) | (simp; omega) | (exact Nat.le_succ _) | (exact Nat.le_succ_of_le (by with_reducible assumption)))
end Go.Proofs.YtjmojddnedngaaaDoor
end
