
/- Plain mathematics of numbers of 256 bits as four words, in two's complement; it speaks of no program. No condition but those that each theorem names. -/
import Derived.Lib.BitFns
import Derived.Laws.BitsAllLaws
import Derived.Laws.Bits64b
import Derived.RowKit
namespace Go.Proofs.Ytibnackmddigaaa
/-- the words of a number, the lowest first; of one below nought those of its two's complement -/
def L0 (z : Int) : Int := z % 18446744073709551616
def L1 (z : Int) : Int := z / 18446744073709551616 % 18446744073709551616
def L2 (z : Int) : Int := z / 18446744073709551616 / 18446744073709551616 % 18446744073709551616
def L3 (z : Int) : Int := z / 18446744073709551616 / 18446744073709551616 / 18446744073709551616 % 18446744073709551616
/-- four variables are words -/
structure W4 (x0 x1 x2 x3 : Int) : Prop where
  a0 : 0 ≤ x0
  b0 : x0 ≤ 18446744073709551615
  a1 : 0 ≤ x1
  b1 : x1 ≤ 18446744073709551615
  a2 : 0 ≤ x2
  b2 : x2 ≤ 18446744073709551615
  a3 : 0 ≤ x3
  b3 : x3 ≤ 18446744073709551615
theorem W4.of (z : Int) : W4 (L0 z) (L1 z) (L2 z) (L3 z) := by
  unfold L0 L1 L2 L3
  constructor <;> omega
def num4 (x0 x1 x2 x3 : Int) : Int := x0 + 18446744073709551616 * (x1 + 18446744073709551616 * (x2 + 18446744073709551616 * x3))
theorem num4_L (z : Int) : num4 (L0 z) (L1 z) (L2 z) (L3 z) = z % 115792089237316195423570985008687907853269984665640564039457584007913129639936 := by
  unfold num4 L0 L1 L2 L3; omega
theorem L_num4 {x0 x1 x2 x3 : Int} (h : W4 x0 x1 x2 x3) : L0 (num4 x0 x1 x2 x3) = x0 ∧ L1 (num4 x0 x1 x2 x3) = x1 ∧ L2 (num4 x0 x1 x2 x3) = x2 ∧ L3 (num4 x0 x1 x2 x3) = x3 := by
  obtain ⟨_, _, _, _, _, _, _, _⟩ := h
  unfold num4 L0 L1 L2 L3; omega
theorem L_sub {a b a0 a1 a2 a3 b0 b1 b2 b3 : Int} (hA : a0 = L0 a ∧ a1 = L1 a ∧ a2 = L2 a ∧ a3 = L3 a) (hB : b0 = L0 b ∧ b1 = L1 b ∧ b2 = L2 b ∧ b3 = L3 b) :
    (a0 - b0) % 18446744073709551616 = L0 (a - b) ∧
    (a1 - b1 - -((a0 - b0) / 18446744073709551616)) % 18446744073709551616 = L1 (a - b) ∧
    (a2 - b2 - -((a1 - b1 - -((a0 - b0) / 18446744073709551616)) / 18446744073709551616)) % 18446744073709551616 = L2 (a - b) ∧
    (a3 - b3 - -((a2 - b2 - -((a1 - b1 - -((a0 - b0) / 18446744073709551616)) / 18446744073709551616)) / 18446744073709551616)) % 18446744073709551616 = L3 (a - b) := by
  unfold L0 L1 L2 L3 at *
  omega
theorem or_add (x y r : Nat) (hx : x % 2 ^ r = 0) (hy : y < 2 ^ r) : x ||| y = x + y := by
  obtain ⟨q, rfl⟩ : ∃ q, x = q * 2 ^ r := ⟨x / 2 ^ r, by have := Nat.div_add_mod x (2 ^ r); rw [hx, Nat.mul_comm] at this; omega⟩
  have := Nat.shiftLeft_add_eq_or_of_lt hy q
  rw [Nat.shiftLeft_eq] at this
  exact this.symm
theorem bits_or_add (x y : Int) (r : Nat) (h0 : 0 ≤ x) (h1 : x ≤ 18446744073709551615) (h2 : 0 ≤ y) (h3 : y < 2 ^ r) (h4 : y ≤ 18446744073709551615) (hx : x % 2 ^ r = 0) : bits .or .u64 x y = x + y := by
  obtain ⟨x, rfl⟩ := Int.eq_ofNat_of_zero_le h0
  obtain ⟨y, rfl⟩ := Int.eq_ofNat_of_zero_le h2
  have e : ((2 : Int) ^ r) = ((2 ^ r : Nat) : Int) := by push_cast; rfl
  rw [e] at h3 hx
  refine (u64_or_nat x y (by omega) (by omega)).trans ?_
  rw [or_add x y r (by exact_mod_cast hx) (by omega)]
  push_cast
  rfl
theorem tw_all (a b : Int) (h0 : 0 ≤ a) (h1 : a ≤ 18446744073709551615) (h2 : 0 ≤ b) (h3 : b ≤ 18446744073709551615) :
    bits BinOp.or IntKind.u64 (IntKind.u64.wrap (IntKind.u64.wrap (IntKind.u64.wrap (a % 4294967296 * (b / 4294967296)) + IntKind.u64.wrap (IntKind.u64.wrap (a / 4294967296 * (b % 4294967296)) + IntKind.u64.wrap (a % 4294967296 * (b % 4294967296)) / 4294967296) % 4294967296) * 4294967296)) (IntKind.u64.wrap (a % 4294967296 * (b % 4294967296)) % 4294967296) = a * b % 18446744073709551616 ∧
    IntKind.u64.wrap (IntKind.u64.wrap (IntKind.u64.wrap (a / 4294967296 * (b / 4294967296)) + IntKind.u64.wrap (IntKind.u64.wrap (a / 4294967296 * (b % 4294967296)) + IntKind.u64.wrap (a % 4294967296 * (b % 4294967296)) / 4294967296) / 4294967296) + IntKind.u64.wrap (IntKind.u64.wrap (a % 4294967296 * (b / 4294967296)) + IntKind.u64.wrap (IntKind.u64.wrap (a / 4294967296 * (b % 4294967296)) + IntKind.u64.wrap (a % 4294967296 * (b % 4294967296)) / 4294967296) % 4294967296) / 4294967296) = a * b / 18446744073709551616 := by
  have mh : ∀ x y : Int, 0 ≤ x → x ≤ 4294967295 → 0 ≤ y → y ≤ 4294967295 → 0 ≤ x * y ∧ x * y ≤ 18446744065119617025 := fun x y h0 h1 h2 h3 => by
    refine ⟨Int.mul_nonneg h0 h2, ?_⟩
    have := Int.mul_le_mul h1 h3 h2 (by omega : (0 : Int) ≤ 4294967295)
    omega
  have ll := mh (a % 4294967296) (b % 4294967296) (by omega) (by omega) (by omega) (by omega)
  have lh := mh (a % 4294967296) (b / 4294967296) (by omega) (by omega) (by omega) (by omega)
  have hl := mh (a / 4294967296) (b % 4294967296) (by omega) (by omega) (by omega) (by omega)
  have hh := mh (a / 4294967296) (b / 4294967296) (by omega) (by omega) (by omega) (by omega)
  have e : a * b = (a / 4294967296 * (b / 4294967296)) * 18446744073709551616 + (a / 4294967296 * (b % 4294967296) + a % 4294967296 * (b / 4294967296)) * 4294967296 + a % 4294967296 * (b % 4294967296) := by
    have ea : a = a / 4294967296 * 4294967296 + a % 4294967296 := by omega
    have eb : b = b / 4294967296 * 4294967296 + b % 4294967296 := by omega
    generalize a / 4294967296 = ah at *
    generalize a % 4294967296 = al at *
    generalize b / 4294967296 = bh at *
    generalize b % 4294967296 = bl at *
    rw [ea, eb]
    simp only [Int.add_mul, Int.mul_add]
    have r1 : ah * 4294967296 * (bh * 4294967296) = ah * bh * 18446744073709551616 := by
      rw [Int.mul_assoc, Int.mul_left_comm 4294967296 bh, ← Int.mul_assoc ah bh, show (4294967296 : Int) * 4294967296 = 18446744073709551616 from rfl]
    have r2 : ah * 4294967296 * bl = ah * bl * 4294967296 := by rw [Int.mul_right_comm]
    have r3 : al * (bh * 4294967296) = al * bh * 4294967296 := by rw [Int.mul_assoc]
    omega
  rw [e]
  generalize a % 4294967296 * (b % 4294967296) = p at *
  generalize a % 4294967296 * (b / 4294967296) = q at *
  generalize a / 4294967296 * (b % 4294967296) = r at *
  generalize a / 4294967296 * (b / 4294967296) = t at *
  simp only [IntKind.wrap_u64]
  constructor
  · rw [bits_or_add _ _ 32 (by omega) (by omega) (by omega) (by omega) (by omega) (by omega)]
    omega
  · omega
/-- the top bit -/
def ngB (z : Int) : Bool := decide (9223372036854775808 ≤ L3 z)
theorem ngB_iff (z : Int) : ngB z = true ↔ 57896044618658097711785492504343953926634992332820282019728792003956564819968 ≤ z % 115792089237316195423570985008687907853269984665640564039457584007913129639936 := by
  unfold ngB L3; rw [decide_eq_true_eq]; omega
/-- a number that a wide.Int can be -/
structure Fit (z : Int) : Prop where
  lo : -57896044618658097711785492504343953926634992332820282019728792003956564819968 ≤ z
  hi : z ≤ 57896044618658097711785492504343953926634992332820282019728792003956564819967
theorem ngB_fit {z : Int} (h : Fit z) : ngB z = decide (z < 0) := by
  obtain ⟨_, _⟩ := h
  rw [Bool.eq_iff_iff, ngB_iff, decide_eq_true_eq]; omega
/-- a number that a wide.size can be -/
structure Siz (z : Int) : Prop where
  lo : 0 ≤ z
  hi : z ≤ 115792089237316195423570985008687907853269984665640564039457584007913129639935
theorem L_inj {a b : Int} (h0 : L0 a = L0 b) (h1 : L1 a = L1 b) (h2 : L2 a = L2 b) (h3 : L3 a = L3 b) : a % 115792089237316195423570985008687907853269984665640564039457584007913129639936 = b % 115792089237316195423570985008687907853269984665640564039457584007913129639936 := by
  rw [← num4_L, ← num4_L, h0, h1, h2, h3]
theorem Fit.inj {a b : Int} (ha : Fit a) (hb : Fit b) (h0 : L0 a = L0 b) (h1 : L1 a = L1 b) (h2 : L2 a = L2 b) (h3 : L3 a = L3 b) : a = b := by
  have := L_inj h0 h1 h2 h3
  obtain ⟨_, _⟩ := ha; obtain ⟨_, _⟩ := hb
  omega
theorem Siz.inj {a b : Int} (ha : Siz a) (hb : Siz b) (h0 : L0 a = L0 b) (h1 : L1 a = L1 b) (h2 : L2 a = L2 b) (h3 : L3 a = L3 b) : a = b := by
  have := L_inj h0 h1 h2 h3
  obtain ⟨_, _⟩ := ha; obtain ⟨_, _⟩ := hb
  omega
end Go.Proofs.Ytibnackmddigaaa
