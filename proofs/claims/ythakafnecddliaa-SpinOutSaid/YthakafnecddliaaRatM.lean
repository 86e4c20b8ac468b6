/- -/
import Derived.RowKit
import Derived.Lib.BitFns
import Derived.Laws.BitsAllLaws
import Derived.Laws.Bits64b
section
namespace Go.Proofs.Ythakafnecddliaa
def sg (z : Int) : Int := if z < 0 then -1 else if 0 < z then 1 else 0
theorem sg3 (z : Int) : (z < 0 ∧ sg z = -1) ∨ (z = 0 ∧ sg z = 0) ∨ (0 < z ∧ sg z = 1) := by unfold sg; omega
theorem sg_zero {z : Int} : sg z = 0 ↔ z = 0 := by unfold sg; omega
theorem sg_neg (z : Int) : sg (-z) = -sg z := by unfold sg; omega
theorem pp {a b : Int} (ha : 0 < a) (hb : 0 < b) : 0 < a * b := Int.mul_pos ha hb
theorem pn {a b : Int} (ha : 0 < a) (hb : b < 0) : a * b < 0 := by
  have := Int.mul_pos ha (show 0 < -b by omega)
  rw [Int.mul_neg] at this; omega
theorem np {a b : Int} (ha : a < 0) (hb : 0 < b) : a * b < 0 := by rw [Int.mul_comm]; exact pn hb ha
theorem nn {a b : Int} (ha : a < 0) (hb : b < 0) : 0 < a * b := by
  have := Int.mul_pos (show 0 < -a by omega) (show 0 < -b by omega)
  rw [Int.neg_mul_neg] at this; exact this
theorem sg_mul (a b : Int) : sg (a * b) = sg a * sg b := by
  rcases sg3 a with ⟨h, e⟩ | ⟨h, e⟩ | ⟨h, e⟩ <;> rcases sg3 b with ⟨k, f⟩ | ⟨k, f⟩ | ⟨k, f⟩ <;> rw [e, f]
  · have := nn h k; unfold sg; omega
  · subst k; simp [sg]
  · have := np h k; unfold sg; omega
  · subst h; simp [sg]
  · subst h; simp [sg]
  · subst h; simp [sg]
  · have := pn h k; unfold sg; omega
  · subst k; simp [sg]
  · have := pp h k; unfold sg; omega
theorem lt_iff_sg (z : Int) : z < 0 ↔ sg z = -1 := by unfold sg; omega
theorem gt_iff_sg (z : Int) : 0 < z ↔ sg z = 1 := by unfold sg; omega
/-- twice the area of a triangle -/
def ar (a1 a2 b1 b2 c1 c2 : Int) : Int := (b1 - a1) * (c2 - a2) - (b2 - a2) * (c1 - a1)
theorem ar_ref (a1 a2 b1 b2 c1 c2 : Int) : a1 * b2 - a2 * b1 + b1 * c2 - b2 * c1 + c1 * a2 - c2 * a1 = ar a1 a2 b1 b2 c1 c2 := by unfold ar; grind
theorem ar_rot (a1 a2 b1 b2 c1 c2 : Int) : ar b1 b2 c1 c2 a1 a2 = ar a1 a2 b1 b2 c1 c2 := by unfold ar; grind
theorem ar_swap (a1 a2 b1 b2 c1 c2 : Int) : ar b1 b2 a1 a2 c1 c2 = -ar a1 a2 b1 b2 c1 c2 := by unfold ar; grind
theorem ar_flip (a1 a2 b1 b2 c1 c2 : Int) : ar a2 a1 b2 b1 c2 c1 = -ar a1 a2 b1 b2 c1 c2 := by unfold ar; grind
theorem ar_same (a1 a2 b1 b2 : Int) : ar a1 a2 b1 b2 a1 a2 = 0 := by unfold ar; grind
theorem ar_same' (a1 a2 b1 b2 : Int) : ar a1 a2 b1 b2 b1 b2 = 0 := by unfold ar; grind
/-- ahead -/
def lsB (a1 a2 b1 b2 : Int) : Bool := decide (a1 < b1) || (decide (a1 = b1) && decide (a2 < b2))
theorem lsB_iff {a1 a2 b1 b2 : Int} : lsB a1 a2 b1 b2 = true ↔ a1 < b1 ∨ a1 = b1 ∧ a2 < b2 := by unfold lsB; simp
def tn (a1 a2 b1 b2 c1 c2 : Int) : Int := sg (ar a1 a2 b1 b2 c1 c2)
/-- on the inside of a line, as the program asks -/
def OnP (p1 p2 a1 a2 b1 b2 : Int) : Prop :=
  ((a1 < p1 ∨ a1 = p1 ∧ a2 < p2) ∧ (p1 < b1 ∨ p1 = b1 ∧ p2 < b2) ∨ (b1 < p1 ∨ b1 = p1 ∧ b2 < p2) ∧ (p1 < a1 ∨ p1 = a1 ∧ p2 < a2)) ∧ ar a1 a2 b1 b2 p1 p2 = 0
/-- on a line, as the document asks -/
def InR (p1 p2 a1 a2 b1 b2 : Int) : Prop :=
  ar a1 a2 b1 b2 p1 p2 = 0 ∧ (a1 ≤ p1 ∧ p1 ≤ b1 ∨ b1 ≤ p1 ∧ p1 ≤ a1) ∧ (a2 ≤ p2 ∧ p2 ≤ b2 ∨ b2 ≤ p2 ∧ p2 ≤ a2)
def OnR (p1 p2 a1 a2 b1 b2 : Int) : Prop := InR p1 p2 a1 a2 b1 b2 ∧ ¬ (p1 = a1 ∧ p2 = a2) ∧ ¬ (p1 = b1 ∧ p2 = b2)
theorem btw {D1 D2 P1 P2 : Int} (hD : 0 < D1) (h0 : 0 ≤ P1) (h1 : P1 ≤ D1) (e : D1 * P2 = D2 * P1) : (0 ≤ P2 ∧ P2 ≤ D2) ∨ (D2 ≤ P2 ∧ P2 ≤ 0) := by
  have e2 : D1 * (D2 - P2) = D2 * (D1 - P1) := by grind
  have s1 := sg_mul D1 P2
  have s2 := sg_mul D1 (D2 - P2)
  rw [e, sg_mul] at s1
  rw [e2, sg_mul] at s2
  have hd : sg D1 = 1 := by unfold sg; omega
  rw [hd] at s1 s2
  have p1 : sg P1 = 0 ∨ sg P1 = 1 := by unfold sg; omega
  have p2 : sg (D1 - P1) = 0 ∨ sg (D1 - P1) = 1 := by unfold sg; omega
  rcases sg3 D2 with ⟨k, f⟩ | ⟨k, f⟩ | ⟨k, f⟩ <;> rw [f] at s1 s2
  · right
    have a1 : sg P2 = 0 ∨ sg P2 = -1 := by omega
    have a2 : sg (D2 - P2) = 0 ∨ sg (D2 - P2) = -1 := by omega
    unfold sg at a1 a2; omega
  · left
    have a1 : sg P2 = 0 := by omega
    have a2 : sg (D2 - P2) = 0 := by omega
    unfold sg at a1 a2; omega
  · left
    have a1 : sg P2 = 0 ∨ sg P2 = 1 := by omega
    have a2 : sg (D2 - P2) = 0 ∨ sg (D2 - P2) = 1 := by omega
    unfold sg at a1 a2; omega
theorem eq_of_mul {k x y : Int} (hk : k ≠ 0) (h : k * x = k * y) : x = y := Int.eq_of_mul_eq_mul_left hk h
theorem zero_of_mul {k x : Int} (hk : k ≠ 0) (h : k * x = 0) : x = 0 := (Int.mul_eq_zero.1 h).resolve_left hk
theorem on_half {p1 p2 a1 a2 b1 b2 : Int} (h : a1 < p1 ∨ a1 = p1 ∧ a2 < p2) (k : p1 < b1 ∨ p1 = b1 ∧ p2 < b2) (e : ar a1 a2 b1 b2 p1 p2 = 0) : (a2 ≤ p2 ∧ p2 ≤ b2 ∨ b2 ≤ p2 ∧ p2 ≤ a2) := by
  by_cases hab : a1 = b1
  · omega
  · have := btw (D1 := b1 - a1) (D2 := b2 - a2) (P1 := p1 - a1) (P2 := p2 - a2) (by omega) (by omega) (by omega) (by unfold ar at e; omega)
    omega
theorem on_eq {p1 p2 a1 a2 b1 b2 : Int} : OnP p1 p2 a1 a2 b1 b2 ↔ OnR p1 p2 a1 a2 b1 b2 := by
  constructor
  · rintro ⟨h | h, e⟩
    · have := on_half h.1 h.2 e
      exact ⟨⟨e, by omega, this⟩, by omega, by omega⟩
    · have e' : ar b1 b2 a1 a2 p1 p2 = 0 := by rw [ar_swap]; omega
      have := on_half h.1 h.2 e'
      exact ⟨⟨e, by omega, by omega⟩, by omega, by omega⟩
  · rintro ⟨⟨e, hx, hy⟩, na, nb⟩
    refine ⟨?_, e⟩
    by_cases hab : a1 = b1
    · omega
    · have z1 : p1 = a1 → p2 = a2 := fun h => by
        unfold ar at e
        subst h
        have : (b1 - p1) * (p2 - a2) = 0 := by simpa using e
        have := zero_of_mul (by omega) this
        omega
      have z2 : p1 = b1 → p2 = b2 := fun h => by
        have e' : ar b1 b2 a1 a2 p1 p2 = 0 := by rw [ar_swap]; omega
        unfold ar at e'
        subst h
        have : (a1 - p1) * (p2 - b2) = 0 := by simpa using e'
        have := zero_of_mul (by omega) this
        omega
      omega
theorem on_swap {p1 p2 a1 a2 b1 b2 : Int} : OnP p1 p2 b1 b2 a1 a2 ↔ OnP p1 p2 a1 a2 b1 b2 := by
  unfold OnP
  rw [ar_swap]
  omega
/-- c on the straight line through a and b, d off it -/
theorem line_x {a1 a2 b1 b2 c1 c2 d1 d2 : Int} (e : ar a1 a2 b1 b2 c1 c2 = 0) :
    (b1 - a1) * ar c1 c2 d1 d2 a1 a2 = (c1 - a1) * ar a1 a2 b1 b2 d1 d2 ∧ (b1 - a1) * ar c1 c2 d1 d2 b1 b2 = -((b1 - c1) * ar a1 a2 b1 b2 d1 d2) := by
  unfold ar at *
  constructor <;> grind
theorem line_y {a1 a2 b1 b2 c1 c2 d1 d2 : Int} (e : ar a1 a2 b1 b2 c1 c2 = 0) :
    (b2 - a2) * ar c1 c2 d1 d2 a1 a2 = (c2 - a2) * ar a1 a2 b1 b2 d1 d2 ∧ (b2 - a2) * ar c1 c2 d1 d2 b1 b2 = -((b2 - c2) * ar a1 a2 b1 b2 d1 d2) := by
  unfold ar at *
  constructor <;> grind
theorem end_x {a1 a2 b1 b2 c1 c2 : Int} (e : ar a1 a2 b1 b2 c1 c2 = 0) (h : b1 ≠ a1) : (c1 = a1 → c2 = a2) ∧ (c1 = b1 → c2 = b2) := by
  refine ⟨fun k => ?_, fun k => ?_⟩
  · subst k
    unfold ar at e
    have : (b1 - c1) * (c2 - a2) = 0 := by simpa using e
    have := zero_of_mul (by omega) this
    omega
  · subst k
    rw [← ar_rot] at e
    unfold ar at e
    have : (c1 - a1) * (c2 - b2) = 0 := by grind
    have := zero_of_mul (by omega) this
    omega
theorem cut {a1 a2 b1 b2 c1 c2 d1 d2 : Int} (hab : ¬ (a1 = b1 ∧ a2 = b2)) (hca : ¬ (c1 = a1 ∧ c2 = a2)) (hcb : ¬ (c1 = b1 ∧ c2 = b2))
    (e : ar a1 a2 b1 b2 c1 c2 = 0) (hd : ar a1 a2 b1 b2 d1 d2 ≠ 0) :
    (sg (ar c1 c2 d1 d2 a1 a2) ≠ sg (ar c1 c2 d1 d2 b1 b2) ↔ OnP c1 c2 a1 a2 b1 b2) ∧ ar c1 c2 d1 d2 a1 a2 ≠ 0 ∧ ar c1 c2 d1 d2 b1 b2 ≠ 0 := by
  have key : ∀ k m n : Int, k ≠ 0 → n = k - m → m ≠ 0 → n ≠ 0 → k * ar c1 c2 d1 d2 a1 a2 = m * ar a1 a2 b1 b2 d1 d2 → k * ar c1 c2 d1 d2 b1 b2 = -(n * ar a1 a2 b1 b2 d1 d2) →
      (sg (ar c1 c2 d1 d2 a1 a2) ≠ sg (ar c1 c2 d1 d2 b1 b2) ↔ (0 < m ∧ m < k ∨ k < m ∧ m < 0)) ∧ ar c1 c2 d1 d2 a1 a2 ≠ 0 ∧ ar c1 c2 d1 d2 b1 b2 ≠ 0 := fun k m n hk hn hm hn0 h1 h2 => by
    have s1 := sg_mul k (ar c1 c2 d1 d2 a1 a2)
    have s2 := sg_mul k (ar c1 c2 d1 d2 b1 b2)
    rw [h1, sg_mul] at s1
    rw [h2, sg_neg, sg_mul] at s2
    generalize ar c1 c2 d1 d2 a1 a2 = A at *
    generalize ar c1 c2 d1 d2 b1 b2 = B at *
    generalize ar a1 a2 b1 b2 d1 d2 = D at *
    clear h1 h2 e
    have nA : ∀ z : Int, sg z ≠ 0 ↔ z ≠ 0 := fun z => by rw [Ne, sg_zero]
    rw [← nA A, ← nA B]
    rcases sg3 D with ⟨_, d⟩ | ⟨d0, _⟩ | ⟨_, d⟩
    rotate_left
    · exact absurd d0 hd
    all_goals
      rw [d] at s1 s2
      rcases sg3 k with ⟨_, k'⟩ | ⟨k0, _⟩ | ⟨_, k'⟩
      rotate_left
      · exact absurd k0 hk
      all_goals
        rw [k'] at s1 s2
        rcases sg3 m with ⟨_, m'⟩ | ⟨m0, _⟩ | ⟨_, m'⟩
        rotate_left
        · exact absurd m0 hm
        all_goals
          rw [m'] at s1
          rcases sg3 n with ⟨_, n'⟩ | ⟨n0, _⟩ | ⟨_, n'⟩
          rotate_left
          · exact absurd n0 hn0
          all_goals
            rw [n'] at s2
            omega
  by_cases hx : b1 = a1
  · have hy : b2 ≠ a2 := by omega
    obtain ⟨h1, h2⟩ := line_y (d1 := d1) (d2 := d2) e
    have hc : c1 = a1 := by
      unfold ar at e
      have : (b2 - a2) * (c1 - a1) = 0 := by
        rw [hx] at e
        have z : a1 - a1 = 0 := by omega
        rw [z] at e
        omega
      have := zero_of_mul (by omega) this
      omega
    have := key _ _ _ (by omega) (by omega) (by omega) (by omega) h1 h2
    refine ⟨this.1.trans ?_, this.2⟩
    unfold OnP
    have e' := e
    generalize ar a1 a2 b1 b2 c1 c2 = Z at *
    omega
  · obtain ⟨h1, h2⟩ := line_x (d1 := d1) (d2 := d2) e
    obtain ⟨z1, z2⟩ := end_x e hx
    have := key _ _ _ (by omega) (by omega) (by omega) (by omega) h1 h2
    refine ⟨this.1.trans ?_, this.2⟩
    unfold OnP
    generalize ar a1 a2 b1 b2 c1 c2 = Z at *
    omega
theorem both {a1 a2 b1 b2 c1 c2 d1 d2 : Int} (hcd : ¬ (c1 = d1 ∧ c2 = d2)) (h : ar c1 c2 d1 d2 a1 a2 = 0) (k : ar c1 c2 d1 d2 b1 b2 = 0) : ar a1 a2 b1 b2 c1 c2 = 0 ∧ ar a1 a2 b1 b2 d1 d2 = 0 := by
  have h1 := line_x (d1 := b1) (d2 := b2) h
  have h2 := line_y (d1 := b1) (d2 := b2) h
  rw [k] at h1 h2
  have r1 : ar a1 a2 b1 b2 c1 c2 = 0 := by
    by_cases hx : d1 = c1
    · refine zero_of_mul (k := d2 - c2) (by omega) ?_
      rw [h2.1]; exact Int.mul_zero _
    · refine zero_of_mul (k := d1 - c1) (by omega) ?_
      rw [h1.1]; exact Int.mul_zero _
  have r2 : ar a1 a2 b1 b2 d1 d2 = 0 := by
    by_cases hx : d1 = c1
    · refine zero_of_mul (k := d2 - c2) (by omega) ?_
      rw [h2.2, Int.mul_zero]; rfl
    · refine zero_of_mul (k := d1 - c1) (by omega) ?_
      rw [h1.2, Int.mul_zero]; rfl
  exact ⟨r1, r2⟩
end Go.Proofs.Ythakafnecddliaa
end
section
namespace Go.Proofs.Ythakafnecddliaa
/-- the words of a number, the lowest first; of one below nought those of its two's complement -/
def L0 (z : Int) : Int := z % 18446744073709551616
def L1 (z : Int) : Int := z / 18446744073709551616 % 18446744073709551616
def L2 (z : Int) : Int := z / 18446744073709551616 / 18446744073709551616 % 18446744073709551616
def L3 (z : Int) : Int := z / 18446744073709551616 / 18446744073709551616 / 18446744073709551616 % 18446744073709551616
/-- four variables are words -/
structure W4 (x0 x1 x2 x3 : Int) : Prop where
  a0 : 0 ≤ x0
  b0 : x0 ≤ 18446744073709551615
  a1 : 0 ≤ x1
  b1 : x1 ≤ 18446744073709551615
  a2 : 0 ≤ x2
  b2 : x2 ≤ 18446744073709551615
  a3 : 0 ≤ x3
  b3 : x3 ≤ 18446744073709551615
theorem W4.of (z : Int) : W4 (L0 z) (L1 z) (L2 z) (L3 z) := by
  unfold L0 L1 L2 L3
  constructor <;> omega
def num4 (x0 x1 x2 x3 : Int) : Int := x0 + 18446744073709551616 * (x1 + 18446744073709551616 * (x2 + 18446744073709551616 * x3))
theorem num4_L (z : Int) : num4 (L0 z) (L1 z) (L2 z) (L3 z) = z % 115792089237316195423570985008687907853269984665640564039457584007913129639936 := by
  unfold num4 L0 L1 L2 L3; omega
theorem L_num4 {x0 x1 x2 x3 : Int} (h : W4 x0 x1 x2 x3) : L0 (num4 x0 x1 x2 x3) = x0 ∧ L1 (num4 x0 x1 x2 x3) = x1 ∧ L2 (num4 x0 x1 x2 x3) = x2 ∧ L3 (num4 x0 x1 x2 x3) = x3 := by
  obtain ⟨_, _, _, _, _, _, _, _⟩ := h
  unfold num4 L0 L1 L2 L3; omega
theorem L_sub {a b a0 a1 a2 a3 b0 b1 b2 b3 : Int} (hA : a0 = L0 a ∧ a1 = L1 a ∧ a2 = L2 a ∧ a3 = L3 a) (hB : b0 = L0 b ∧ b1 = L1 b ∧ b2 = L2 b ∧ b3 = L3 b) :
    (a0 - b0) % 18446744073709551616 = L0 (a - b) ∧
    (a1 - b1 - -((a0 - b0) / 18446744073709551616)) % 18446744073709551616 = L1 (a - b) ∧
    (a2 - b2 - -((a1 - b1 - -((a0 - b0) / 18446744073709551616)) / 18446744073709551616)) % 18446744073709551616 = L2 (a - b) ∧
    (a3 - b3 - -((a2 - b2 - -((a1 - b1 - -((a0 - b0) / 18446744073709551616)) / 18446744073709551616)) / 18446744073709551616)) % 18446744073709551616 = L3 (a - b) := by
  unfold L0 L1 L2 L3 at *
  omega
theorem or_add (x y r : Nat) (hx : x % 2 ^ r = 0) (hy : y < 2 ^ r) : x ||| y = x + y := by
  obtain ⟨q, rfl⟩ : ∃ q, x = q * 2 ^ r := ⟨x / 2 ^ r, by have := Nat.div_add_mod x (2 ^ r); rw [hx, Nat.mul_comm] at this; omega⟩
  have := Nat.shiftLeft_add_eq_or_of_lt hy q
  rw [Nat.shiftLeft_eq] at this
  exact this.symm
theorem bits_or_add (x y : Int) (r : Nat) (h0 : 0 ≤ x) (h1 : x ≤ 18446744073709551615) (h2 : 0 ≤ y) (h3 : y < 2 ^ r) (h4 : y ≤ 18446744073709551615) (hx : x % 2 ^ r = 0) : bits .or .u64 x y = x + y := by
  obtain ⟨x, rfl⟩ := Int.eq_ofNat_of_zero_le h0
  obtain ⟨y, rfl⟩ := Int.eq_ofNat_of_zero_le h2
  have e : ((2 : Int) ^ r) = ((2 ^ r : Nat) : Int) := by push_cast; rfl
  rw [e] at h3 hx
  refine (u64_or_nat x y (by omega) (by omega)).trans ?_
  rw [or_add x y r (by exact_mod_cast hx) (by omega)]
  push_cast
  rfl
theorem tw_all (a b : Int) (h0 : 0 ≤ a) (h1 : a ≤ 18446744073709551615) (h2 : 0 ≤ b) (h3 : b ≤ 18446744073709551615) :
    bits BinOp.or IntKind.u64 (IntKind.u64.wrap (IntKind.u64.wrap (IntKind.u64.wrap (a % 4294967296 * (b / 4294967296)) + IntKind.u64.wrap (IntKind.u64.wrap (a / 4294967296 * (b % 4294967296)) + IntKind.u64.wrap (a % 4294967296 * (b % 4294967296)) / 4294967296) % 4294967296) * 4294967296)) (IntKind.u64.wrap (a % 4294967296 * (b % 4294967296)) % 4294967296) = a * b % 18446744073709551616 ∧
    IntKind.u64.wrap (IntKind.u64.wrap (IntKind.u64.wrap (a / 4294967296 * (b / 4294967296)) + IntKind.u64.wrap (IntKind.u64.wrap (a / 4294967296 * (b % 4294967296)) + IntKind.u64.wrap (a % 4294967296 * (b % 4294967296)) / 4294967296) / 4294967296) + IntKind.u64.wrap (IntKind.u64.wrap (a % 4294967296 * (b / 4294967296)) + IntKind.u64.wrap (IntKind.u64.wrap (a / 4294967296 * (b % 4294967296)) + IntKind.u64.wrap (a % 4294967296 * (b % 4294967296)) / 4294967296) % 4294967296) / 4294967296) = a * b / 18446744073709551616 := by
  have mh : ∀ x y : Int, 0 ≤ x → x ≤ 4294967295 → 0 ≤ y → y ≤ 4294967295 → 0 ≤ x * y ∧ x * y ≤ 18446744065119617025 := fun x y h0 h1 h2 h3 => by
    refine ⟨Int.mul_nonneg h0 h2, ?_⟩
    have := Int.mul_le_mul h1 h3 h2 (by omega : (0 : Int) ≤ 4294967295)
    omega
  have ll := mh (a % 4294967296) (b % 4294967296) (by omega) (by omega) (by omega) (by omega)
  have lh := mh (a % 4294967296) (b / 4294967296) (by omega) (by omega) (by omega) (by omega)
  have hl := mh (a / 4294967296) (b % 4294967296) (by omega) (by omega) (by omega) (by omega)
  have hh := mh (a / 4294967296) (b / 4294967296) (by omega) (by omega) (by omega) (by omega)
  have e : a * b = (a / 4294967296 * (b / 4294967296)) * 18446744073709551616 + (a / 4294967296 * (b % 4294967296) + a % 4294967296 * (b / 4294967296)) * 4294967296 + a % 4294967296 * (b % 4294967296) := by
    have ea : a = a / 4294967296 * 4294967296 + a % 4294967296 := by omega
    have eb : b = b / 4294967296 * 4294967296 + b % 4294967296 := by omega
    generalize a / 4294967296 = ah at *
    generalize a % 4294967296 = al at *
    generalize b / 4294967296 = bh at *
    generalize b % 4294967296 = bl at *
    rw [ea, eb]
    simp only [Int.add_mul, Int.mul_add]
    have r1 : ah * 4294967296 * (bh * 4294967296) = ah * bh * 18446744073709551616 := by
      rw [Int.mul_assoc, Int.mul_left_comm 4294967296 bh, ← Int.mul_assoc ah bh, show (4294967296 : Int) * 4294967296 = 18446744073709551616 from rfl]
    have r2 : ah * 4294967296 * bl = ah * bl * 4294967296 := by rw [Int.mul_right_comm]
    have r3 : al * (bh * 4294967296) = al * bh * 4294967296 := by rw [Int.mul_assoc]
    omega
  rw [e]
  generalize a % 4294967296 * (b % 4294967296) = p at *
  generalize a % 4294967296 * (b / 4294967296) = q at *
  generalize a / 4294967296 * (b % 4294967296) = r at *
  generalize a / 4294967296 * (b / 4294967296) = t at *
  simp only [IntKind.wrap_u64]
  constructor
  · rw [bits_or_add _ _ 32 (by omega) (by omega) (by omega) (by omega) (by omega) (by omega)]
    omega
  · omega
/-- the top bit -/
def ngB (z : Int) : Bool := decide (9223372036854775808 ≤ L3 z)
theorem ngB_iff (z : Int) : ngB z = true ↔ 57896044618658097711785492504343953926634992332820282019728792003956564819968 ≤ z % 115792089237316195423570985008687907853269984665640564039457584007913129639936 := by
  unfold ngB L3; rw [decide_eq_true_eq]; omega
/-- a number that a wide.Int can be -/
structure Fit (z : Int) : Prop where
  lo : -57896044618658097711785492504343953926634992332820282019728792003956564819968 ≤ z
  hi : z ≤ 57896044618658097711785492504343953926634992332820282019728792003956564819967
theorem ngB_fit {z : Int} (h : Fit z) : ngB z = decide (z < 0) := by
  obtain ⟨_, _⟩ := h
  rw [Bool.eq_iff_iff, ngB_iff, decide_eq_true_eq]; omega
/-- a number that a wide.size can be -/
structure Siz (z : Int) : Prop where
  lo : 0 ≤ z
  hi : z ≤ 115792089237316195423570985008687907853269984665640564039457584007913129639935
theorem L_inj {a b : Int} (h0 : L0 a = L0 b) (h1 : L1 a = L1 b) (h2 : L2 a = L2 b) (h3 : L3 a = L3 b) : a % 115792089237316195423570985008687907853269984665640564039457584007913129639936 = b % 115792089237316195423570985008687907853269984665640564039457584007913129639936 := by
  rw [← num4_L, ← num4_L, h0, h1, h2, h3]
theorem Fit.inj {a b : Int} (ha : Fit a) (hb : Fit b) (h0 : L0 a = L0 b) (h1 : L1 a = L1 b) (h2 : L2 a = L2 b) (h3 : L3 a = L3 b) : a = b := by
  have := L_inj h0 h1 h2 h3
  obtain ⟨_, _⟩ := ha; obtain ⟨_, _⟩ := hb
  omega
theorem Siz.inj {a b : Int} (ha : Siz a) (hb : Siz b) (h0 : L0 a = L0 b) (h1 : L1 a = L1 b) (h2 : L2 a = L2 b) (h3 : L3 a = L3 b) : a = b := by
  have := L_inj h0 h1 h2 h3
  obtain ⟨_, _⟩ := ha; obtain ⟨_, _⟩ := hb
  omega
end Go.Proofs.Ythakafnecddliaa
end
section
namespace Go.Proofs.Ythakafnecddliaa
set_option linter.unusedVariables false
instance (z : Int) : Decidable (Fit z) := decidable_of_iff (-57896044618658097711785492504343953926634992332820282019728792003956564819968 ≤ z ∧ z ≤ 57896044618658097711785492504343953926634992332820282019728792003956564819967) ⟨fun h => ⟨h.1, h.2⟩, fun h => ⟨h.lo, h.hi⟩⟩
/-- the greatest that divides both -/
def gz (n d : Int) : Int := (((n.natAbs).gcd d.natAbs : Nat) : Int)
/-- right -/
def Rgt (n d : Int) : Prop := 0 < d ∧ gz n d = 1
instance (n d : Int) : Decidable (Rgt n d) := by unfold Rgt; infer_instance
theorem Rgt.pos {n d : Int} (h : Rgt n d) : 0 < d := h.1
/-- what Make answers -/
def Mk (n d p q er : Int) : Prop :=
  (d = 0 ∧ p = 0 ∧ q = 0 ∧ er = 4) ∨
  (d < 0 ∧ (¬ Fit (gz n d) ∨ ¬ Fit (n.tdiv (-gz n d)) ∨ ¬ Fit (d.tdiv (-gz n d))) ∧ p = 0 ∧ q = 0 ∧ er = 3) ∨
  (d ≠ 0 ∧ er = 0 ∧ Fit (gz n d) ∧ Fit p ∧ Fit q ∧ Rgt p q ∧ p * d = n * q ∧ p = n.tdiv (if d < 0 then -gz n d else gz n d) ∧ q = d.tdiv (if d < 0 then -gz n d else gz n d))
theorem Mk.fits {n d p q er : Int} (h : Mk n d p q er) : Fit p ∧ Fit q := by
  rcases h with ⟨_, rfl, rfl, _⟩ | ⟨_, _, rfl, rfl, _⟩ | ⟨_, _, _, h, k, _⟩
  · exact ⟨⟨by decide, by decide⟩, ⟨by decide, by decide⟩⟩
  · exact ⟨⟨by decide, by decide⟩, ⟨by decide, by decide⟩⟩
  · exact ⟨h, k⟩
theorem Mk.ok {n d p q er : Int} (h : Mk n d p q er) (e : er = 0) : Fit p ∧ Fit q ∧ Rgt p q ∧ p * d = n * q ∧ d ≠ 0 := by
  rcases h with ⟨_, _, _, h⟩ | ⟨_, _, _, _, h⟩ | ⟨h0, _, _, h, k, r, m, _⟩
  · omega
  · omega
  · exact ⟨h, k, r, m, h0⟩
theorem Mk.pos {n d p q er : Int} (h : Mk n d p q er) (k : 0 < d) : er = 0 := by
  rcases h with ⟨_, _, _, h⟩ | ⟨_, _, _, _, h⟩ | ⟨h0, h, _⟩ <;> omega
section
variable {a b c d p q r s : Int}
end
end Go.Proofs.Ythakafnecddliaa
end
