/- merged: Plain mathematics of numbers of 256 bits as four words, in two's complement; it speaks of no program. No condition but those that each theorem names. Plain mathematics of fractions: reduced ones, what they are alike by, sums and products. It speaks of no program. No condition but those that each theorem names. -/
import Derived.Lib.BitFns
import Derived.Laws.BitsAllLaws
import Derived.Laws.Bits64b
import Derived.RowKit
import Derived.Test.YtdkmclaihojknaaGeoM
section
namespace Go.Proofs.Ytdkmclaihojknaa
/-- the words of a number, the lowest first; of one below nought those of its two's complement -/
def L0 (z : Int) : Int := z % 18446744073709551616
def L1 (z : Int) : Int := z / 18446744073709551616 % 18446744073709551616
def L2 (z : Int) : Int := z / 18446744073709551616 / 18446744073709551616 % 18446744073709551616
def L3 (z : Int) : Int := z / 18446744073709551616 / 18446744073709551616 / 18446744073709551616 % 18446744073709551616
/-- four variables are words -/
structure W4 (x0 x1 x2 x3 : Int) : Prop where
  a0 : 0 ≤ x0
  b0 : x0 ≤ 18446744073709551615
  a1 : 0 ≤ x1
  b1 : x1 ≤ 18446744073709551615
  a2 : 0 ≤ x2
  b2 : x2 ≤ 18446744073709551615
  a3 : 0 ≤ x3
  b3 : x3 ≤ 18446744073709551615
theorem W4.of (z : Int) : W4 (L0 z) (L1 z) (L2 z) (L3 z) := by
  unfold L0 L1 L2 L3
  constructor <;> omega
def num4 (x0 x1 x2 x3 : Int) : Int := x0 + 18446744073709551616 * (x1 + 18446744073709551616 * (x2 + 18446744073709551616 * x3))
theorem num4_L (z : Int) : num4 (L0 z) (L1 z) (L2 z) (L3 z) = z % 115792089237316195423570985008687907853269984665640564039457584007913129639936 := by
  unfold num4 L0 L1 L2 L3; omega
theorem L_num4 {x0 x1 x2 x3 : Int} (h : W4 x0 x1 x2 x3) : L0 (num4 x0 x1 x2 x3) = x0 ∧ L1 (num4 x0 x1 x2 x3) = x1 ∧ L2 (num4 x0 x1 x2 x3) = x2 ∧ L3 (num4 x0 x1 x2 x3) = x3 := by
  obtain ⟨_, _, _, _, _, _, _, _⟩ := h
  unfold num4 L0 L1 L2 L3; omega
theorem L_add {a b a0 a1 a2 a3 b0 b1 b2 b3 : Int} (hA : a0 = L0 a ∧ a1 = L1 a ∧ a2 = L2 a ∧ a3 = L3 a) (hB : b0 = L0 b ∧ b1 = L1 b ∧ b2 = L2 b ∧ b3 = L3 b) :
    (a0 + b0) % 18446744073709551616 = L0 (a + b) ∧
    (a1 + b1 + (a0 + b0) / 18446744073709551616) % 18446744073709551616 = L1 (a + b) ∧
    (a2 + b2 + (a1 + b1 + (a0 + b0) / 18446744073709551616) / 18446744073709551616) % 18446744073709551616 = L2 (a + b) ∧
    (a3 + b3 + (a2 + b2 + (a1 + b1 + (a0 + b0) / 18446744073709551616) / 18446744073709551616) / 18446744073709551616) % 18446744073709551616 = L3 (a + b) := by
  unfold L0 L1 L2 L3 at *
  omega
theorem L_sub {a b a0 a1 a2 a3 b0 b1 b2 b3 : Int} (hA : a0 = L0 a ∧ a1 = L1 a ∧ a2 = L2 a ∧ a3 = L3 a) (hB : b0 = L0 b ∧ b1 = L1 b ∧ b2 = L2 b ∧ b3 = L3 b) :
    (a0 - b0) % 18446744073709551616 = L0 (a - b) ∧
    (a1 - b1 - -((a0 - b0) / 18446744073709551616)) % 18446744073709551616 = L1 (a - b) ∧
    (a2 - b2 - -((a1 - b1 - -((a0 - b0) / 18446744073709551616)) / 18446744073709551616)) % 18446744073709551616 = L2 (a - b) ∧
    (a3 - b3 - -((a2 - b2 - -((a1 - b1 - -((a0 - b0) / 18446744073709551616)) / 18446744073709551616)) / 18446744073709551616)) % 18446744073709551616 = L3 (a - b) := by
  unfold L0 L1 L2 L3 at *
  omega
theorem or_add (x y r : Nat) (hx : x % 2 ^ r = 0) (hy : y < 2 ^ r) : x ||| y = x + y := by
  obtain ⟨q, rfl⟩ : ∃ q, x = q * 2 ^ r := ⟨x / 2 ^ r, by have := Nat.div_add_mod x (2 ^ r); rw [hx, Nat.mul_comm] at this; omega⟩
  have := Nat.shiftLeft_add_eq_or_of_lt hy q
  rw [Nat.shiftLeft_eq] at this
  exact this.symm
theorem bits_or_add (x y : Int) (r : Nat) (h0 : 0 ≤ x) (h1 : x ≤ 18446744073709551615) (h2 : 0 ≤ y) (h3 : y < 2 ^ r) (h4 : y ≤ 18446744073709551615) (hx : x % 2 ^ r = 0) : bits .or .u64 x y = x + y := by
  obtain ⟨x, rfl⟩ := Int.eq_ofNat_of_zero_le h0
  obtain ⟨y, rfl⟩ := Int.eq_ofNat_of_zero_le h2
  have e : ((2 : Int) ^ r) = ((2 ^ r : Nat) : Int) := by push_cast; rfl
  rw [e] at h3 hx
  refine (u64_or_nat x y (by omega) (by omega)).trans ?_
  rw [or_add x y r (by exact_mod_cast hx) (by omega)]
  push_cast
  rfl
theorem tw_all (a b : Int) (h0 : 0 ≤ a) (h1 : a ≤ 18446744073709551615) (h2 : 0 ≤ b) (h3 : b ≤ 18446744073709551615) :
    bits BinOp.or IntKind.u64 (IntKind.u64.wrap (IntKind.u64.wrap (IntKind.u64.wrap (a % 4294967296 * (b / 4294967296)) + IntKind.u64.wrap (IntKind.u64.wrap (a / 4294967296 * (b % 4294967296)) + IntKind.u64.wrap (a % 4294967296 * (b % 4294967296)) / 4294967296) % 4294967296) * 4294967296)) (IntKind.u64.wrap (a % 4294967296 * (b % 4294967296)) % 4294967296) = a * b % 18446744073709551616 ∧
    IntKind.u64.wrap (IntKind.u64.wrap (IntKind.u64.wrap (a / 4294967296 * (b / 4294967296)) + IntKind.u64.wrap (IntKind.u64.wrap (a / 4294967296 * (b % 4294967296)) + IntKind.u64.wrap (a % 4294967296 * (b % 4294967296)) / 4294967296) / 4294967296) + IntKind.u64.wrap (IntKind.u64.wrap (a % 4294967296 * (b / 4294967296)) + IntKind.u64.wrap (IntKind.u64.wrap (a / 4294967296 * (b % 4294967296)) + IntKind.u64.wrap (a % 4294967296 * (b % 4294967296)) / 4294967296) % 4294967296) / 4294967296) = a * b / 18446744073709551616 := by
  have mh : ∀ x y : Int, 0 ≤ x → x ≤ 4294967295 → 0 ≤ y → y ≤ 4294967295 → 0 ≤ x * y ∧ x * y ≤ 18446744065119617025 := fun x y h0 h1 h2 h3 => by
    refine ⟨Int.mul_nonneg h0 h2, ?_⟩
    have := Int.mul_le_mul h1 h3 h2 (by omega : (0 : Int) ≤ 4294967295)
    omega
  have ll := mh (a % 4294967296) (b % 4294967296) (by omega) (by omega) (by omega) (by omega)
  have lh := mh (a % 4294967296) (b / 4294967296) (by omega) (by omega) (by omega) (by omega)
  have hl := mh (a / 4294967296) (b % 4294967296) (by omega) (by omega) (by omega) (by omega)
  have hh := mh (a / 4294967296) (b / 4294967296) (by omega) (by omega) (by omega) (by omega)
  have e : a * b = (a / 4294967296 * (b / 4294967296)) * 18446744073709551616 + (a / 4294967296 * (b % 4294967296) + a % 4294967296 * (b / 4294967296)) * 4294967296 + a % 4294967296 * (b % 4294967296) := by
    have ea : a = a / 4294967296 * 4294967296 + a % 4294967296 := by omega
    have eb : b = b / 4294967296 * 4294967296 + b % 4294967296 := by omega
    generalize a / 4294967296 = ah at *
    generalize a % 4294967296 = al at *
    generalize b / 4294967296 = bh at *
    generalize b % 4294967296 = bl at *
    rw [ea, eb]
    simp only [Int.add_mul, Int.mul_add]
    have r1 : ah * 4294967296 * (bh * 4294967296) = ah * bh * 18446744073709551616 := by
      rw [Int.mul_assoc, Int.mul_left_comm 4294967296 bh, ← Int.mul_assoc ah bh, show (4294967296 : Int) * 4294967296 = 18446744073709551616 from rfl]
    have r2 : ah * 4294967296 * bl = ah * bl * 4294967296 := by rw [Int.mul_right_comm]
    have r3 : al * (bh * 4294967296) = al * bh * 4294967296 := by rw [Int.mul_assoc]
    omega
  rw [e]
  generalize a % 4294967296 * (b % 4294967296) = p at *
  generalize a % 4294967296 * (b / 4294967296) = q at *
  generalize a / 4294967296 * (b % 4294967296) = r at *
  generalize a / 4294967296 * (b / 4294967296) = t at *
  simp only [IntKind.wrap_u64]
  constructor
  · rw [bits_or_add _ _ 32 (by omega) (by omega) (by omega) (by omega) (by omega) (by omega)]
    omega
  · omega
/-- the top bit -/
def ngB (z : Int) : Bool := decide (9223372036854775808 ≤ L3 z)
theorem ngB_iff (z : Int) : ngB z = true ↔ 57896044618658097711785492504343953926634992332820282019728792003956564819968 ≤ z % 115792089237316195423570985008687907853269984665640564039457584007913129639936 := by
  unfold ngB L3; rw [decide_eq_true_eq]; omega
/-- a number that a wide.Int can be -/
structure Fit (z : Int) : Prop where
  lo : -57896044618658097711785492504343953926634992332820282019728792003956564819968 ≤ z
  hi : z ≤ 57896044618658097711785492504343953926634992332820282019728792003956564819967
theorem ngB_fit {z : Int} (h : Fit z) : ngB z = decide (z < 0) := by
  obtain ⟨_, _⟩ := h
  rw [Bool.eq_iff_iff, ngB_iff, decide_eq_true_eq]; omega
/-- a number that a wide.size can be -/
structure Siz (z : Int) : Prop where
  lo : 0 ≤ z
  hi : z ≤ 115792089237316195423570985008687907853269984665640564039457584007913129639935
theorem L_inj {a b : Int} (h0 : L0 a = L0 b) (h1 : L1 a = L1 b) (h2 : L2 a = L2 b) (h3 : L3 a = L3 b) : a % 115792089237316195423570985008687907853269984665640564039457584007913129639936 = b % 115792089237316195423570985008687907853269984665640564039457584007913129639936 := by
  rw [← num4_L, ← num4_L, h0, h1, h2, h3]
theorem Fit.inj {a b : Int} (ha : Fit a) (hb : Fit b) (h0 : L0 a = L0 b) (h1 : L1 a = L1 b) (h2 : L2 a = L2 b) (h3 : L3 a = L3 b) : a = b := by
  have := L_inj h0 h1 h2 h3
  obtain ⟨_, _⟩ := ha; obtain ⟨_, _⟩ := hb
  omega
theorem Siz.inj {a b : Int} (ha : Siz a) (hb : Siz b) (h0 : L0 a = L0 b) (h1 : L1 a = L1 b) (h2 : L2 a = L2 b) (h3 : L3 a = L3 b) : a = b := by
  have := L_inj h0 h1 h2 h3
  obtain ⟨_, _⟩ := ha; obtain ⟨_, _⟩ := hb
  omega
/-- of any four words the number that a wide.Int of them is -/
def sg4 (x0 x1 x2 x3 : Int) : Int := if 9223372036854775808 ≤ x3 then num4 x0 x1 x2 x3 - 115792089237316195423570985008687907853269984665640564039457584007913129639936 else num4 x0 x1 x2 x3
theorem sg4_fit {x0 x1 x2 x3 : Int} (h : W4 x0 x1 x2 x3) : Fit (sg4 x0 x1 x2 x3) := by
  obtain ⟨_, _, _, _, _, _, _, _⟩ := h
  unfold sg4 num4; constructor <;> split <;> omega
theorem sg4_L {x0 x1 x2 x3 : Int} (h : W4 x0 x1 x2 x3) : L0 (sg4 x0 x1 x2 x3) = x0 ∧ L1 (sg4 x0 x1 x2 x3) = x1 ∧ L2 (sg4 x0 x1 x2 x3) = x2 ∧ L3 (sg4 x0 x1 x2 x3) = x3 := by
  obtain ⟨_, _, _, _, _, _, _, _⟩ := h
  unfold sg4 num4 L0 L1 L2 L3; split <;> omega
theorem sg4_num4 {z : Int} (h : Fit z) : sg4 (L0 z) (L1 z) (L2 z) (L3 z) = z := by
  obtain ⟨_, _⟩ := h
  unfold sg4
  rw [num4_L]
  unfold L3
  split <;> omega
end Go.Proofs.Ytdkmclaihojknaa
end
section
namespace Go.Proofs.Ytdkmclaihojknaa
set_option linter.unusedVariables false
instance (z : Int) : Decidable (Fit z) := decidable_of_iff (-57896044618658097711785492504343953926634992332820282019728792003956564819968 ≤ z ∧ z ≤ 57896044618658097711785492504343953926634992332820282019728792003956564819967) ⟨fun h => ⟨h.1, h.2⟩, fun h => ⟨h.lo, h.hi⟩⟩
/-- the greatest that divides both -/
def gz (n d : Int) : Int := (((n.natAbs).gcd d.natAbs : Nat) : Int)
theorem gz_nonneg (n d : Int) : 0 ≤ gz n d := by unfold gz; omega
theorem gz_pos {n d : Int} (h : d ≠ 0) : 0 < gz n d := by
  unfold gz
  have := Nat.gcd_pos_of_pos_right n.natAbs (show 0 < d.natAbs by omega)
  omega
theorem gz_le {n d : Int} (h : 0 < d) : gz n d ≤ d := by
  unfold gz
  have := Nat.gcd_le_right n.natAbs (show 0 < d.natAbs by omega)
  omega
theorem gz_dvd_left (n d : Int) : gz n d ∣ n := by
  unfold gz
  have h := Nat.gcd_dvd_left n.natAbs d.natAbs
  exact Int.ofNat_dvd_left.2 h
theorem gz_dvd_right (n d : Int) : gz n d ∣ d := by
  unfold gz
  have h := Nat.gcd_dvd_right n.natAbs d.natAbs
  exact Int.ofNat_dvd_left.2 h
/-- right -/
def Rgt (n d : Int) : Prop := 0 < d ∧ gz n d = 1
instance (n d : Int) : Decidable (Rgt n d) := by unfold Rgt; infer_instance
theorem Rgt.pos {n d : Int} (h : Rgt n d) : 0 < d := h.1
theorem rgt_cop {p q : Int} (h : Rgt p q) : Nat.Coprime p.natAbs q.natAbs := by
  have := h.2
  unfold gz at this
  unfold Nat.Coprime
  omega
/-- two right fractions that are alike are one -/
theorem rgt_uniq {p q r s : Int} (h : Rgt p q) (k : Rgt r s) (e : p * s = r * q) : p = r ∧ q = s := by
  have e' : p.natAbs * s.natAbs = r.natAbs * q.natAbs := by rw [← Int.natAbs_mul, ← Int.natAbs_mul, e]
  have d1 : q.natAbs ∣ s.natAbs := by
    have : q.natAbs ∣ p.natAbs * s.natAbs := e' ▸ Nat.dvd_mul_left _ _
    exact (Nat.Coprime.symm (rgt_cop h)).dvd_of_dvd_mul_left this
  have d2 : s.natAbs ∣ q.natAbs := by
    have : s.natAbs ∣ r.natAbs * q.natAbs := e' ▸ Nat.dvd_mul_left _ _
    exact (Nat.Coprime.symm (rgt_cop k)).dvd_of_dvd_mul_left this
  have e2 : q.natAbs = s.natAbs := Nat.dvd_antisymm d1 d2
  have hq := h.1
  have hs := k.1
  have e3 : q = s := by omega
  subst e3
  refine ⟨?_, rfl⟩
  have : q * p = q * r := by rw [Int.mul_comm, e, Int.mul_comm]
  exact eq_of_mul (by omega) this
theorem tdiv_dvd {a b : Int} (h : b ∣ a) : a.tdiv b * b = a := Int.tdiv_mul_cancel h
/-- what Make answers -/
def Mk (n d p q er : Int) : Prop :=
  (d = 0 ∧ p = 0 ∧ q = 0 ∧ er = 4) ∨
  (d < 0 ∧ (¬ Fit (gz n d) ∨ ¬ Fit (n.tdiv (-gz n d)) ∨ ¬ Fit (d.tdiv (-gz n d))) ∧ p = 0 ∧ q = 0 ∧ er = 3) ∨
  (d ≠ 0 ∧ er = 0 ∧ Fit (gz n d) ∧ Fit p ∧ Fit q ∧ Rgt p q ∧ p * d = n * q ∧ p = n.tdiv (if d < 0 then -gz n d else gz n d) ∧ q = d.tdiv (if d < 0 then -gz n d else gz n d))
theorem Mk.fits {n d p q er : Int} (h : Mk n d p q er) : Fit p ∧ Fit q := by
  rcases h with ⟨_, rfl, rfl, _⟩ | ⟨_, _, rfl, rfl, _⟩ | ⟨_, _, _, h, k, _⟩
  · exact ⟨⟨by decide, by decide⟩, ⟨by decide, by decide⟩⟩
  · exact ⟨⟨by decide, by decide⟩, ⟨by decide, by decide⟩⟩
  · exact ⟨h, k⟩
theorem Mk.ok {n d p q er : Int} (h : Mk n d p q er) (e : er = 0) : Fit p ∧ Fit q ∧ Rgt p q ∧ p * d = n * q ∧ d ≠ 0 := by
  rcases h with ⟨_, _, _, h⟩ | ⟨_, _, _, _, h⟩ | ⟨h0, _, _, h, k, r, m, _⟩
  · omega
  · omega
  · exact ⟨h, k, r, m, h0⟩
theorem Mk.pos {n d p q er : Int} (h : Mk n d p q er) (k : 0 < d) : er = 0 := by
  rcases h with ⟨_, _, _, h⟩ | ⟨_, _, _, _, h⟩ | ⟨h0, h, _⟩ <;> omega
/-- both through what divides them -/
theorem red_rgt {n d g : Int} (hd : d ≠ 0) (hg : g = if d < 0 then -gz n d else gz n d) : Rgt (n.tdiv g) (d.tdiv g) ∧ n.tdiv g * d = n * d.tdiv g := by
  have g0 := gz_pos (n := n) hd
  have ab : g.natAbs = (n.natAbs).gcd d.natAbs := by
    have : (g.natAbs : Int) = gz n d := by subst hg; split <;> omega
    unfold gz at this; omega
  have g1 : g ≠ 0 := by subst hg; split <;> omega
  have dl : g ∣ n := by rw [← Int.natAbs_dvd_natAbs, ab]; exact Nat.gcd_dvd_left _ _
  have dr : g ∣ d := by rw [← Int.natAbs_dvd_natAbs, ab]; exact Nat.gcd_dvd_right _ _
  have en := tdiv_dvd dl
  have ed := tdiv_dvd dr
  have an : (n.tdiv g).natAbs = n.natAbs / g.natAbs := Int.natAbs_tdiv n g
  have ad : (d.tdiv g).natAbs = d.natAbs / g.natAbs := Int.natAbs_tdiv d g
  refine ⟨⟨?_, ?_⟩, ?_⟩
  · have s := sg_mul (d.tdiv g) g
    rw [ed] at s
    have sgg : sg g = sg d := by
      subst hg
      unfold sg; split <;> split <;> omega
    rw [sgg] at s
    have : sg d = 1 ∨ sg d = -1 := by unfold sg; omega
    have : sg (d.tdiv g) = 1 := by rcases this with h | h <;> rw [h] at s <;> omega
    exact (gt_iff_sg _).2 this
  · unfold gz
    rw [an, ad, ab]
    have hp : 0 < (n.natAbs).gcd d.natAbs := Nat.gcd_pos_of_pos_right _ (by omega)
    rw [Nat.gcd_div (Nat.gcd_dvd_left _ _) (Nat.gcd_dvd_right _ _), Nat.div_self hp]
    rfl
  · generalize n.tdiv g = P at *
    generalize d.tdiv g = Q at *
    rw [← en, ← ed]
    grind
theorem whole_rgt (n : Int) : Rgt n 1 := by
  refine ⟨by omega, ?_⟩
  unfold gz
  rw [show (1 : Int).natAbs = 1 from rfl, Nat.gcd_one_right]
  rfl
section
variable {a b c d p q r s : Int}
/-- what was added, taken away -/
theorem back_add (hb : 0 < b) (hd : 0 < d) (hq : 0 < q) (h : p * (b * d) = (a * d + c * b) * q) (k : r * (q * d) = (p * d - c * q) * s) : r * b = a * s := by
  have : (q * d * d) * (r * b) = (q * d * d) * (a * s) := by grind
  exact eq_of_mul (Int.ne_of_gt (Int.mul_pos (Int.mul_pos hq hd) hd)) this
theorem back_mul (hb : 0 < b) (hd : 0 < d) (hq : 0 < q) (hc : c ≠ 0) (h : p * (b * d) = (a * c) * q) (k : r * (q * c) = (p * d) * s) : r * b = a * s := by
  have : (q * c * d) * (r * b) = (q * c * d) * (a * s) := by grind
  refine eq_of_mul ?_ this
  have h1 : q * c ≠ 0 := Int.mul_ne_zero (by omega) hc
  exact Int.mul_ne_zero h1 (by omega)
theorem sg_pos_mul {x y : Int} (h : 0 < x) : sg (x * y) = sg y := by
  rw [sg_mul, (gt_iff_sg x).1 h]; omega
theorem sub_sign (hb : 0 < b) (hd : 0 < d) (hq : 0 < q) (h : p * (b * d) = (a * d - c * b) * q) : sg p = sg (a * d - c * b) := by
  have h1 := sg_pos_mul (y := p) (Int.mul_pos hb hd)
  have h2 := sg_pos_mul (y := a * d - c * b) hq
  rw [Int.mul_comm] at h1 h2
  rw [← h1, ← h2, h]
theorem le_trans_frac (hb : 0 < b) (hd : 0 < d) (hs : 0 < s) (h : a * d ≤ c * b) (k : c * s ≤ r * d) : a * s ≤ r * b := by
  have h1 := Int.mul_le_mul_of_nonneg_right h (show 0 ≤ s by omega)
  have h2 := Int.mul_le_mul_of_nonneg_right k (show 0 ≤ b by omega)
  have e1 : a * d * s = d * (a * s) := by grind
  have e2 : c * b * s = c * s * b := by grind
  have e3 : r * d * b = d * (r * b) := by grind
  rw [e1, e2] at h1
  rw [e3] at h2
  exact Int.le_of_mul_le_mul_left (Int.le_trans h1 h2) hd
end
end Go.Proofs.Ytdkmclaihojknaa
end
