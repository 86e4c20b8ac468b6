/- merged: Plain mathematics: numbers of 256 bits moved up and down. It speaks of no program. Plain mathematics of long division, bit by bit. It speaks of no program. -/
import Derived.Test.YthakafnecddliaaRatM
section
namespace Go.Proofs.Ythakafnecddliaa

theorem ediv2 (a : Int) {P : Int} (Q : Int) (hP : 0 ≤ P) : a / P / Q = a / (P * Q) := by
  rw [Int.ediv_ediv, if_neg (by omega)]; omega
theorem up_step (x t c P Q B : Int) (hP : 0 < P) (hQ : 0 < Q) (hB : P * Q = B) (hc0 : 0 ≤ c) (hc : c < P) :
    ((x + B * t) * P + c) / B = t * P + x / Q ∧ ((x + B * t) * P + c) % B = x * P % B + c := by
  have hB0 : 0 < B := by rw [← hB]; exact Int.mul_pos hP hQ
  have e : (x + B * t) * P + c = (x * P + c) + B * (t * P) := by rw [Int.add_mul, Int.mul_assoc]; omega
  have d : ∀ c, 0 ≤ c → c < P → (x * P + c) / B = x / Q := fun c h0 h1 => by
    rw [← hB, ← ediv2 _ _ (Int.le_of_lt hP), Int.add_comm, Int.add_mul_ediv_right _ _ (by omega), Int.ediv_eq_zero_of_lt h0 h1, Int.zero_add]
  have d0 := d 0 (Int.le_refl 0) hP
  have d1 := d c hc0 hc
  rw [Int.add_zero] at d0
  rw [e, Int.add_mul_ediv_left _ _ (by omega), Int.add_mul_emod_self_left, d1]
  refine ⟨by omega, ?_⟩
  rw [Int.emod_def, d1, Int.emod_def, d0]; omega
theorem dn_step (x t P Q B : Int) (hP : 0 < P) (hB : P * Q = B) : (x + B * t) / P = x / P + Q * t := by
  rw [← hB, Int.mul_assoc, Int.add_mul_ediv_left _ _ (by omega)]
theorem dn_mod (x y u P Q B : Int) (hP : 0 < P) (hQ : 0 < Q) (hB : P * Q = B) (hx0 : 0 ≤ x) (hx : x < B) : (x / P + Q * (y + B * u)) % B = x / P + y * Q % B := by
  have hB0 : 0 < B := by rw [← hB]; exact Int.mul_pos hP hQ
  have e : x / P + Q * (y + B * u) = (x / P + Q * y) + B * (Q * u) := by rw [Int.mul_add, ← Int.mul_assoc Q B, Int.mul_comm Q B, Int.mul_assoc]; omega
  have m : y * Q % B = Q * (y % P) := by rw [← hB, Int.mul_comm P Q, Int.mul_comm y Q, Int.mul_emod_mul_of_pos _ _ hQ]
  have l : x / P < Q := Int.ediv_lt_of_lt_mul hP (by rw [Int.mul_comm, hB]; exact hx)
  have l0 : 0 ≤ x / P := Int.ediv_nonneg hx0 (by omega)
  have y0 := Int.emod_nonneg y (show P ≠ 0 by omega)
  have y1 := Int.emod_lt_of_pos y hP
  rw [e, Int.add_mul_emod_self_left, m]
  have hs : Q * (y % P) + Q ≤ B := by
    have h : Q * (y % P) + Q = Q * (y % P + 1) := by rw [Int.mul_add, Int.mul_one]
    have k : Q * (y % P + 1) ≤ Q * P := Int.mul_le_mul_of_nonneg_left (by omega) (by omega)
    rw [Int.mul_comm Q P, hB] at k
    omega
  have hp : 0 ≤ Q * (y % P) := Int.mul_nonneg (by omega) y0
  have q : x / P + Q * y = x / P + Q * (y % P) + B * (y / P) := by
    have h : y = P * (y / P) + y % P := (Int.mul_ediv_add_emod y P).symm
    have h2 : Q * y = Q * (P * (y / P)) + Q * (y % P) := by rw [← Int.mul_add, ← h]
    rw [← Int.mul_assoc, Int.mul_comm Q P, hB] at h2
    omega
  rw [q, Int.add_mul_emod_self_left]
  exact Int.emod_eq_of_lt (by omega) (by omega)
theorem pow_split (r : Nat) (hr : r ≤ 63) : (0 : Int) < 2 ^ r ∧ (0 : Int) < 2 ^ (64 - r) ∧ (2 : Int) ^ r * 2 ^ (64 - r) = 18446744073709551616 := by
  refine ⟨Int.pow_pos (by decide), Int.pow_pos (by decide), ?_⟩
  rw [← Int.pow_add, show r + (64 - r) = 64 by omega]
  rfl
theorem mod2 (a p q : Int) : a % (p * q) % p = a % p := Int.emod_emod_of_dvd a (Int.dvd_mul_right p q)
theorem or_up (x y : Int) (r : Nat) (hr : r ≤ 63) (hy : 0 ≤ y) (hy' : y ≤ 18446744073709551615) :
    bits .or .u64 (IntKind.u64.wrap (x * 2 ^ r)) (y / 2 ^ (64 - r)) = x * 2 ^ r % 18446744073709551616 + y / 2 ^ (64 - r) := by
  obtain ⟨hP, hQ, hB⟩ := pow_split r hr
  rw [IntKind.wrap_u64]
  have l : y / 2 ^ (64 - r) < 2 ^ r := Int.ediv_lt_of_lt_mul hQ (by rw [hB]; omega)
  have l0 : 0 ≤ y / 2 ^ (64 - r) := Int.ediv_nonneg hy (by omega)
  have l1 : (2 : Int) ^ r ≤ 18446744073709551616 := by rw [← hB]; exact (by have := Int.mul_le_mul_of_nonneg_left (show (1 : Int) ≤ 2 ^ (64 - r) by omega) (Int.le_of_lt hP); omega)
  refine bits_or_add _ _ r (by omega) (by omega) l0 l (by omega) ?_
  rw [← hB, mod2, Int.mul_emod_left]
theorem or_dn (x y : Int) (r : Nat) (hr : r ≤ 63) (hx : 0 ≤ x) (hx' : x ≤ 18446744073709551615) :
    bits .or .u64 (x / 2 ^ r) (IntKind.u64.wrap (y * 2 ^ (64 - r))) = x / 2 ^ r + y * 2 ^ (64 - r) % 18446744073709551616 := by
  obtain ⟨hP, hQ, hB⟩ := pow_split r hr
  rw [IntKind.wrap_u64]
  have l : x / 2 ^ r < 2 ^ (64 - r) := Int.ediv_lt_of_lt_mul hP (by rw [Int.mul_comm, hB]; omega)
  have l0 : 0 ≤ x / 2 ^ r := Int.ediv_nonneg hx (by omega)
  have l1 : (2 : Int) ^ (64 - r) ≤ 18446744073709551616 := by rw [← hB]; exact (by have := Int.mul_le_mul_of_nonneg_right (show (1 : Int) ≤ 2 ^ r by omega) (Int.le_of_lt hQ); omega)
  have c : bits .or .u64 (x / 2 ^ r) (y * 2 ^ (64 - r) % 18446744073709551616) = bits .or .u64 (y * 2 ^ (64 - r) % 18446744073709551616) (x / 2 ^ r) := by
    obtain ⟨u, hu⟩ := Int.eq_ofNat_of_zero_le l0
    obtain ⟨v, hv⟩ := Int.eq_ofNat_of_zero_le (show 0 ≤ y * 2 ^ (64 - r) % 18446744073709551616 by omega)
    rw [hu, hv]
    refine (u64_or_nat u v (by omega) (by omega)).trans (Eq.trans ?_ (u64_or_nat v u (by omega) (by omega)).symm)
    rw [Nat.or_comm]
  rw [c, Int.add_comm]
  refine bits_or_add _ _ (64 - r) (by omega) (by omega) l0 l (by omega) ?_
  rw [← hB, Int.mul_comm (2 ^ r), mod2, Int.mul_emod_left]
/-- moved up by fewer than 64 -/
theorem L_up (a : Int) (r : Nat) (hr : r ≤ 63) :
    IntKind.u64.wrap (L0 a * 2 ^ r) = L0 (a * 2 ^ r) ∧
    bits .or .u64 (IntKind.u64.wrap (L1 a * 2 ^ r)) (L0 a / 2 ^ (64 - r)) = L1 (a * 2 ^ r) ∧
    bits .or .u64 (IntKind.u64.wrap (L2 a * 2 ^ r)) (L1 a / 2 ^ (64 - r)) = L2 (a * 2 ^ r) ∧
    bits .or .u64 (IntKind.u64.wrap (L3 a * 2 ^ r)) (L2 a / 2 ^ (64 - r)) = L3 (a * 2 ^ r) := by
  obtain ⟨w0, w0', w1, w1', w2, w2', w3, w3'⟩ := W4.of a
  rw [or_up _ _ r hr w0 w0', or_up _ _ r hr w1 w1', or_up _ _ r hr w2 w2', IntKind.wrap_u64]
  obtain ⟨hP, hQ, hB⟩ := pow_split r hr
  have q : ∀ y : Int, 0 ≤ y → y ≤ 18446744073709551615 → 0 ≤ y / 2 ^ (64 - r) ∧ y / 2 ^ (64 - r) < 2 ^ r := fun y h0 h1 =>
    ⟨Int.ediv_nonneg h0 (by omega), Int.ediv_lt_of_lt_mul hQ (by rw [hB]; omega)⟩
  have e0 : a = L0 a + 18446744073709551616 * (a / 18446744073709551616) := by unfold L0; omega
  have e1 : a / 18446744073709551616 = L1 a + 18446744073709551616 * (a / 18446744073709551616 / 18446744073709551616) := by unfold L1; omega
  have e2 : a / 18446744073709551616 / 18446744073709551616 = L2 a + 18446744073709551616 * (a / 18446744073709551616 / 18446744073709551616 / 18446744073709551616) := by unfold L2; omega
  have e3 : a / 18446744073709551616 / 18446744073709551616 / 18446744073709551616 = L3 a + 18446744073709551616 * (a / 18446744073709551616 / 18446744073709551616 / 18446744073709551616 / 18446744073709551616) := by unfold L3; omega
  obtain ⟨f0, g0⟩ := up_step (L0 a) (a / 18446744073709551616) 0 (2 ^ r) (2 ^ (64 - r)) 18446744073709551616 hP hQ hB (Int.le_refl 0) hP
  obtain ⟨f1, g1⟩ := up_step (L1 a) (a / 18446744073709551616 / 18446744073709551616) (L0 a / 2 ^ (64 - r)) (2 ^ r) (2 ^ (64 - r)) 18446744073709551616 hP hQ hB (q _ w0 w0').1 (q _ w0 w0').2
  obtain ⟨f2, g2⟩ := up_step (L2 a) (a / 18446744073709551616 / 18446744073709551616 / 18446744073709551616) (L1 a / 2 ^ (64 - r)) (2 ^ r) (2 ^ (64 - r)) 18446744073709551616 hP hQ hB (q _ w1 w1').1 (q _ w1 w1').2
  obtain ⟨f3, g3⟩ := up_step (L3 a) (a / 18446744073709551616 / 18446744073709551616 / 18446744073709551616 / 18446744073709551616) (L2 a / 2 ^ (64 - r)) (2 ^ r) (2 ^ (64 - r)) 18446744073709551616 hP hQ hB (q _ w2 w2').1 (q _ w2 w2').2
  rw [← e0, Int.add_zero] at f0 g0
  rw [← e1, ← f0] at f1 g1
  rw [← e2, ← f1] at f2 g2
  rw [← e3, ← f2] at f3 g3
  rw [← g1, ← g2, ← g3, ← Int.add_zero (L0 a * 2 ^ r % 18446744073709551616), ← g0]
  exact ⟨rfl, rfl, rfl, rfl⟩
/-- moved down by fewer than 64 -/
theorem L_dn (a : Int) (h : Siz a) (r : Nat) (hr : r ≤ 63) :
    bits .or .u64 (L0 a / 2 ^ r) (IntKind.u64.wrap (L1 a * 2 ^ (64 - r))) = L0 (a / 2 ^ r) ∧
    bits .or .u64 (L1 a / 2 ^ r) (IntKind.u64.wrap (L2 a * 2 ^ (64 - r))) = L1 (a / 2 ^ r) ∧
    bits .or .u64 (L2 a / 2 ^ r) (IntKind.u64.wrap (L3 a * 2 ^ (64 - r))) = L2 (a / 2 ^ r) ∧
    L3 a / 2 ^ r = L3 (a / 2 ^ r) := by
  obtain ⟨w0, w0', w1, w1', w2, w2', w3, w3'⟩ := W4.of a
  rw [or_dn _ _ r hr w0 w0', or_dn _ _ r hr w1 w1', or_dn _ _ r hr w2 w2']
  obtain ⟨hP, hQ, hB⟩ := pow_split r hr
  have e0 : a = L0 a + 18446744073709551616 * (a / 18446744073709551616) := by unfold L0; omega
  have e1 : a / 18446744073709551616 = L1 a + 18446744073709551616 * (a / 18446744073709551616 / 18446744073709551616) := by unfold L1; omega
  have e2 : a / 18446744073709551616 / 18446744073709551616 = L2 a + 18446744073709551616 * (a / 18446744073709551616 / 18446744073709551616 / 18446744073709551616) := by unfold L2; omega
  have e3 : a / 18446744073709551616 / 18446744073709551616 / 18446744073709551616 = L3 a := by unfold L3; obtain ⟨_, _⟩ := h; omega
  have sw : ∀ x : Int, x / 2 ^ r / 18446744073709551616 = x / 18446744073709551616 / 2 ^ r := fun x => by
    rw [ediv2 _ _ (Int.le_of_lt hP), ediv2 _ _ (by omega), Int.mul_comm]
  have f0 := dn_step (L0 a) (a / 18446744073709551616) (2 ^ r) (2 ^ (64 - r)) 18446744073709551616 hP hB
  have f1 := dn_step (L1 a) (a / 18446744073709551616 / 18446744073709551616) (2 ^ r) (2 ^ (64 - r)) 18446744073709551616 hP hB
  have f2 := dn_step (L2 a) (a / 18446744073709551616 / 18446744073709551616 / 18446744073709551616) (2 ^ r) (2 ^ (64 - r)) 18446744073709551616 hP hB
  have g0 := dn_mod (L0 a) (L1 a) (a / 18446744073709551616 / 18446744073709551616) (2 ^ r) (2 ^ (64 - r)) 18446744073709551616 hP hQ hB w0 (by omega)
  have g1 := dn_mod (L1 a) (L2 a) (a / 18446744073709551616 / 18446744073709551616 / 18446744073709551616) (2 ^ r) (2 ^ (64 - r)) 18446744073709551616 hP hQ hB w1 (by omega)
  have g2 := dn_mod (L2 a) (L3 a) 0 (2 ^ r) (2 ^ (64 - r)) 18446744073709551616 hP hQ hB w2 (by omega)
  rw [← e1, ← f0, ← e0] at g0
  rw [← e2, ← f1, ← e1] at g1
  rw [Int.mul_zero, Int.add_zero, ← e3, ← f2, ← e2, e3] at g2
  have g3 : L3 a / 2 ^ r = L3 (a / 2 ^ r) := by
    show L3 a / 2 ^ r = a / 2 ^ r / 18446744073709551616 / 18446744073709551616 / 18446744073709551616 % 18446744073709551616
    rw [sw, sw, sw, e3]
    have l : L3 a / 2 ^ r ≤ L3 a := Int.ediv_le_self _ w3
    have l0 : 0 ≤ L3 a / 2 ^ r := Int.ediv_nonneg w3 (by omega)
    have l1 : L3 a / 2 ^ r < 18446744073709551616 := by omega
    exact (Int.emod_eq_of_lt l0 l1).symm
  refine ⟨g0.symm.trans rfl, ?_, ?_, g3⟩
  · rw [← g1]; unfold L1; rw [sw]
  · rw [← g2]; unfold L2; rw [sw, sw]
theorem L_word (a : Int) : L0 (a * 18446744073709551616) = 0 ∧ L1 (a * 18446744073709551616) = L0 a ∧ L2 (a * 18446744073709551616) = L1 a ∧ L3 (a * 18446744073709551616) = L2 a := by
  unfold L0 L1 L2 L3; omega
theorem L_drop (a : Int) (h : Siz a) : L0 (a / 18446744073709551616) = L1 a ∧ L1 (a / 18446744073709551616) = L2 a ∧ L2 (a / 18446744073709551616) = L3 a ∧ L3 (a / 18446744073709551616) = 0 := by
  obtain ⟨_, _⟩ := h
  unfold L0 L1 L2 L3; omega
theorem pow_words (n r : Nat) (k : Nat) (h : n = r + 64 * k) : (2 : Int) ^ n = 2 ^ r * 18446744073709551616 ^ k := by
  rw [h, Int.pow_add, Int.pow_mul]; rfl
theorem Siz.div {a : Int} (h : Siz a) {p : Int} (hp : 0 < p) : Siz (a / p) := by
  obtain ⟨h0, h1⟩ := h
  have l : a / p ≤ a := Int.ediv_le_self _ h0
  have l0 : 0 ≤ a / p := Int.ediv_nonneg h0 (by omega)
  exact ⟨l0, by omega⟩
theorem Siz.small {a : Int} (h : Siz a) (n : Nat) (hn : 256 ≤ n) : a / 2 ^ n = 0 := by
  obtain ⟨h0, h1⟩ := h
  refine Int.ediv_eq_zero_of_lt h0 ?_
  have e : (2 : Int) ^ 256 ≤ 2 ^ n := by exact_mod_cast Nat.pow_le_pow_right (by omega : 0 < 2) hn
  have e2 : (2 : Int) ^ 256 = 115792089237316195423570985008687907853269984665640564039457584007913129639936 := by decide +kernel
  omega
end Go.Proofs.Ythakafnecddliaa
end
section
namespace Go.Proofs.Ythakafnecddliaa

theorem pow_pos2 (n : Nat) : (0 : Int) < 2 ^ n := Int.pow_pos (by decide)
theorem pow_succ2 (n : Nat) : (2 : Int) ^ (n + 1) = 2 * 2 ^ n := by rw [Int.pow_succ, Int.mul_comm]
/-- where the part that is taken away begins -/
theorem div_start (a b : Int) (la lb : Nat) (ha : a < 2 ^ la) (hb : b < 2 ^ lb) (hb1 : 1 ≤ lb) (hb2 : 2 ^ (lb - 1) ≤ b) (hl : lb ≤ la) (h256 : la ≤ 256) :
    a < b * 2 ^ (la - lb + 1) ∧ b * 2 ^ (la - lb) ≤ 115792089237316195423570985008687907853269984665640564039457584007913129639935 := by
  have e1 : (2 : Int) ^ la = 2 ^ (lb - 1) * 2 ^ (la - lb + 1) := by rw [← Int.pow_add]; congr 1; omega
  have e2 : (2 : Int) ^ la = 2 ^ lb * 2 ^ (la - lb) := by rw [← Int.pow_add]; congr 1; omega
  have p1 := pow_pos2 (la - lb + 1)
  have p2 := pow_pos2 (la - lb)
  have m1 := Int.mul_le_mul_of_nonneg_right hb2 (Int.le_of_lt p1)
  have m2 := Int.mul_lt_mul_of_pos_right hb p2
  have e3 : (2 : Int) ^ la ≤ 2 ^ 256 := by exact_mod_cast Nat.pow_le_pow_right (by omega : 0 < 2) h256
  have e4 : (2 : Int) ^ 256 = 115792089237316195423570985008687907853269984665640564039457584007913129639936 := by decide +kernel
  rw [← e1] at m1
  rw [← e2] at m2
  constructor <;> omega
theorem div_less (a b : Int) (la lb : Nat) (ha : a < 2 ^ la) (hb2 : 2 ^ (lb - 1) ≤ b) (hl : la < lb) : a < b := by
  have : (2 : Int) ^ la ≤ 2 ^ (lb - 1) := by exact_mod_cast Nat.pow_le_pow_right (by omega : 0 < 2) (by omega)
  omega
/-- how far the division has come: a is q b + r, r less than b times 2^n, which is twice the part -/
structure DivAt (a b q r : Int) (n : Nat) : Prop where
  eq : a = q * b + r
  r0 : 0 ≤ r
  lt : r < b * 2 ^ n
  q0 : 0 ≤ q
  low : q % 2 ^ n = 0
theorem DivAt.part (b : Int) (n : Nat) : b * 2 ^ (n + 1) / 2 = b * 2 ^ n := by
  rw [pow_succ2, ← Int.mul_assoc, Int.mul_comm b 2, Int.mul_assoc, Int.mul_ediv_cancel_left _ (by decide)]
theorem DivAt.take {a b q r : Int} {n : Nat} (h : DivAt a b q r (n + 1)) (hr : b * 2 ^ n ≤ r) : DivAt a b (q + 2 ^ n) (r - b * 2 ^ n) n := by
  obtain ⟨e, r0, lt, q0, low⟩ := h
  have p := pow_pos2 n
  rw [pow_succ2] at lt low
  refine ⟨?_, by omega, ?_, by omega, ?_⟩
  · rw [Int.add_mul, e, Int.mul_comm (2 ^ n) b]; omega
  · rw [← Int.mul_assoc, Int.mul_comm b 2, Int.mul_assoc] at lt; omega
  · have h1 := (Int.emod_emod_of_dvd q (show (2 ^ n : Int) ∣ 2 * 2 ^ n from Int.dvd_mul_left 2 (2 ^ n)))
    rw [low] at h1
    rw [Int.add_emod_right, ← h1]; exact Int.zero_emod _
theorem DivAt.pass {a b q r : Int} {n : Nat} (h : DivAt a b q r (n + 1)) (hr : r < b * 2 ^ n) : DivAt a b q r n := by
  obtain ⟨e, r0, lt, q0, low⟩ := h
  rw [pow_succ2] at low
  refine ⟨e, r0, hr, q0, ?_⟩
  have h1 := (Int.emod_emod_of_dvd q (show (2 ^ n : Int) ∣ 2 * 2 ^ n from Int.dvd_mul_left 2 (2 ^ n)))
  rw [low] at h1
  rw [← h1]; exact Int.zero_emod _
theorem DivAt.done {a b q r : Int} (h : DivAt a b q r 0) (hb : 0 < b) : q = a / b ∧ r = a % b := by
  obtain ⟨e, r0, lt, q0, low⟩ := h
  rw [show (2 : Int) ^ 0 = 1 from rfl, Int.mul_one] at lt
  have h1 : a / b = q := by
    rw [e, Int.add_comm, Int.add_mul_ediv_right _ _ (by omega), Int.ediv_eq_zero_of_lt r0 lt, Int.zero_add]
  have h2 := Int.emod_def a b
  rw [h1, Int.mul_comm, e] at h2
  constructor
  · exact h1.symm
  · rw [e, h2]; omega
theorem DivAt.siz {a b q r : Int} {n : Nat} (h : DivAt a b q r n) (ha : Siz a) (hb : 0 < b) : Siz q ∧ Siz r := by
  obtain ⟨e, r0, lt, q0, low⟩ := h
  obtain ⟨l, u⟩ := ha
  have k : q ≤ q * b := by
    have := Int.mul_le_mul_of_nonneg_left (show 1 ≤ b by omega) q0
    omega
  have k2 : 0 ≤ q * b := Int.mul_nonneg q0 (by omega)
  exact ⟨⟨q0, by omega⟩, ⟨r0, by omega⟩⟩
theorem DivAt.begin (a b : Int) (n : Nat) (ha : 0 ≤ a) (h : a < b * 2 ^ n) : DivAt a b 0 a n := ⟨by omega, ha, h, Int.le_refl 0, Int.zero_emod _⟩
theorem fits_word (x D E : Int) (hD : 0 < D) (hB : 2 * D * E = 18446744073709551616) (hx : x < 18446744073709551616) (hm : x % (2 * D) = 0) : x + D < 18446744073709551616 := by
  have e := Int.mul_ediv_add_emod x (2 * D)
  rw [hm, Int.add_zero] at e
  have l : x / (2 * D) < E := by
    apply Int.ediv_lt_of_lt_mul (by omega)
    rw [Int.mul_comm, hB]; exact hx
  have m := Int.mul_le_mul_of_nonneg_left (show x / (2 * D) + 1 ≤ E by omega) (show 0 ≤ 2 * D by omega)
  rw [Int.mul_add, e, hB] at m
  omega
theorem or_bit (x : Int) (m : Nat) (hm : m ≤ 63) (h0 : 0 ≤ x) (h1 : x ≤ 18446744073709551615) (hx : x % 2 ^ (m + 1) = 0) : bits .or .u64 x (2 ^ m) = x + 2 ^ m ∧ x + 2 ^ m ≤ 18446744073709551615 := by
  have p := pow_pos2 m
  have e : (2 : Int) * 2 ^ m * 2 ^ (63 - m) = 18446744073709551616 := by
    rw [← pow_succ2, ← Int.pow_add, show m + 1 + (63 - m) = 64 by omega]; rfl
  have l := fits_word x (2 ^ m) (2 ^ (63 - m)) p e (by omega) (by rw [← pow_succ2]; exact hx)
  refine ⟨bits_or_add x (2 ^ m) (m + 1) h0 h1 (Int.le_of_lt p) ?_ ?_ hx, by omega⟩
  · rw [pow_succ2]; omega
  · omega
/-- a bit set in a number that has none from there down -/
theorem L_bit0 (q : Int) (m : Nat) (hm : m ≤ 63) (hl : q % 2 ^ (m + 1) = 0) :
    bits .or .u64 (L0 q) (2 ^ m) = L0 (q + 2 ^ m) ∧ L1 q = L1 (q + 2 ^ m) ∧ L2 q = L2 (q + 2 ^ m) ∧ L3 q = L3 (q + 2 ^ m) := by
  have d : (2 : Int) ^ (m + 1) ∣ 18446744073709551616 := ⟨2 ^ (63 - m), by rw [← Int.pow_add, show m + 1 + (63 - m) = 64 by omega]; rfl⟩
  have h0 : L0 q % 2 ^ (m + 1) = 0 := by unfold L0; rw [Int.emod_emod_of_dvd q d]; exact hl
  obtain ⟨w0, w0', -, -, -, -, -, -⟩ := W4.of q
  obtain ⟨e, l⟩ := or_bit (L0 q) m hm w0 w0' h0
  rw [e]
  have p := pow_pos2 m
  generalize (2 : Int) ^ m = D at *
  unfold L0 L1 L2 L3 at *
  omega
theorem L_bit1 (q : Int) (m : Nat) (hm : m ≤ 63) (hl : q % (18446744073709551616 * 2 ^ (m + 1)) = 0) :
    L0 q = L0 (q + 18446744073709551616 * 2 ^ m) ∧ bits .or .u64 (L1 q) (2 ^ m) = L1 (q + 18446744073709551616 * 2 ^ m) ∧ L2 q = L2 (q + 18446744073709551616 * 2 ^ m) ∧ L3 q = L3 (q + 18446744073709551616 * 2 ^ m) := by
  have e := Int.mul_ediv_add_emod q (18446744073709551616 * 2 ^ (m + 1))
  rw [hl, Int.add_zero, Int.mul_assoc] at e
  have h := L_bit0 (q / 18446744073709551616) m hm (by rw [← e, Int.mul_ediv_cancel_left _ (by decide)]; exact Int.mul_emod_right _ _)
  generalize (2 : Int) ^ m = D at *
  have e1 : (q + 18446744073709551616 * D) / 18446744073709551616 = q / 18446744073709551616 + D := by omega
  unfold L0 L1 L2 L3 at *
  rw [e1]
  exact ⟨by omega, h.1, h.2.1, h.2.2.1⟩
theorem L_bit2 (q : Int) (m : Nat) (hm : m ≤ 63) (hl : q % (18446744073709551616 * (18446744073709551616 * 2 ^ (m + 1))) = 0) :
    L0 q = L0 (q + 18446744073709551616 * (18446744073709551616 * 2 ^ m)) ∧ L1 q = L1 (q + 18446744073709551616 * (18446744073709551616 * 2 ^ m)) ∧ bits .or .u64 (L2 q) (2 ^ m) = L2 (q + 18446744073709551616 * (18446744073709551616 * 2 ^ m)) ∧ L3 q = L3 (q + 18446744073709551616 * (18446744073709551616 * 2 ^ m)) := by
  have e := Int.mul_ediv_add_emod q (18446744073709551616 * (18446744073709551616 * 2 ^ (m + 1)))
  rw [hl, Int.add_zero, Int.mul_assoc] at e
  have h := L_bit1 (q / 18446744073709551616) m hm (by rw [← e, Int.mul_ediv_cancel_left _ (by decide)]; exact Int.mul_emod_right _ _)
  generalize (2 : Int) ^ m = D at *
  have e1 : (q + 18446744073709551616 * (18446744073709551616 * D)) / 18446744073709551616 = q / 18446744073709551616 + 18446744073709551616 * D := by omega
  unfold L0 L1 L2 L3 at *
  rw [e1]
  exact ⟨by omega, h.1, h.2.1, h.2.2.1⟩
theorem L_bit3 (q : Int) (m : Nat) (hm : m ≤ 63) (hl : q % (18446744073709551616 * (18446744073709551616 * (18446744073709551616 * 2 ^ (m + 1)))) = 0) :
    L0 q = L0 (q + 18446744073709551616 * (18446744073709551616 * (18446744073709551616 * 2 ^ m))) ∧ L1 q = L1 (q + 18446744073709551616 * (18446744073709551616 * (18446744073709551616 * 2 ^ m))) ∧ L2 q = L2 (q + 18446744073709551616 * (18446744073709551616 * (18446744073709551616 * 2 ^ m))) ∧ bits .or .u64 (L3 q) (2 ^ m) = L3 (q + 18446744073709551616 * (18446744073709551616 * (18446744073709551616 * 2 ^ m))) := by
  have e := Int.mul_ediv_add_emod q (18446744073709551616 * (18446744073709551616 * (18446744073709551616 * 2 ^ (m + 1))))
  rw [hl, Int.add_zero, Int.mul_assoc] at e
  have h := L_bit2 (q / 18446744073709551616) m hm (by rw [← e, Int.mul_ediv_cancel_left _ (by decide)]; exact Int.mul_emod_right _ _)
  generalize (2 : Int) ^ m = D at *
  have e1 : (q + 18446744073709551616 * (18446744073709551616 * (18446744073709551616 * D))) / 18446744073709551616 = q / 18446744073709551616 + 18446744073709551616 * (18446744073709551616 * D) := by omega
  unfold L0 L1 L2 L3 at *
  rw [e1]
  exact ⟨by omega, h.1, h.2.1, h.2.2.1⟩
theorem set_bit_0 (q mm : Int) (k : Nat) (hk : (k : Int) / 64 = 0) (hm : (k : Int) % 64 = mm) (hl : q % 2 ^ (k + 1) = 0) : bits .or .u64 (L0 q) (IntKind.u64.wrap (2 ^ mm.toNat)) = L0 (q + 2 ^ k) ∧ L1 q = L1 (q + 2 ^ k) ∧ L2 q = L2 (q + 2 ^ k) ∧ L3 q = L3 (q + 2 ^ k) := by
  have hmt : mm.toNat ≤ 63 := by omega
  have w : IntKind.u64.wrap (2 ^ mm.toNat) = 2 ^ mm.toNat := by
    rw [IntKind.wrap_u64]
    have p := pow_pos2 mm.toNat
    have l := (pow_split mm.toNat hmt)
    have l2 : (2 : Int) ^ mm.toNat ≤ 2 ^ 63 := by exact_mod_cast Nat.pow_le_pow_right (by omega : 0 < 2) hmt
    have l3 : (2 : Int) ^ 63 = 9223372036854775808 := by decide +kernel
    exact Int.emod_eq_of_lt (by omega) (by omega)
  have e : (2 : Int) ^ k = 2 ^ mm.toNat := by
    rw [show k = mm.toNat + 64 * 0 by omega, Int.pow_add, Int.pow_mul, show (2 : Int) ^ 64 = 18446744073709551616 from by decide +kernel]
    simp only [Int.pow_zero, Int.mul_one]
  have e' : (2 : Int) ^ (k + 1) = 2 ^ (mm.toNat + 1) := by
    rw [pow_succ2, e, pow_succ2]
  rw [w, e]
  rw [e'] at hl
  exact L_bit0 q mm.toNat hmt hl
theorem set_bit_1 (q mm : Int) (k : Nat) (hk : (k : Int) / 64 = 1) (hm : (k : Int) % 64 = mm) (hl : q % 2 ^ (k + 1) = 0) : L0 q = L0 (q + 2 ^ k) ∧ bits .or .u64 (L1 q) (IntKind.u64.wrap (2 ^ mm.toNat)) = L1 (q + 2 ^ k) ∧ L2 q = L2 (q + 2 ^ k) ∧ L3 q = L3 (q + 2 ^ k) := by
  have hmt : mm.toNat ≤ 63 := by omega
  have w : IntKind.u64.wrap (2 ^ mm.toNat) = 2 ^ mm.toNat := by
    rw [IntKind.wrap_u64]
    have p := pow_pos2 mm.toNat
    have l := (pow_split mm.toNat hmt)
    have l2 : (2 : Int) ^ mm.toNat ≤ 2 ^ 63 := by exact_mod_cast Nat.pow_le_pow_right (by omega : 0 < 2) hmt
    have l3 : (2 : Int) ^ 63 = 9223372036854775808 := by decide +kernel
    exact Int.emod_eq_of_lt (by omega) (by omega)
  have e : (2 : Int) ^ k = (18446744073709551616 * 2 ^ mm.toNat) := by
    rw [show k = mm.toNat + 64 * 1 by omega, Int.pow_add, Int.pow_mul, show (2 : Int) ^ 64 = 18446744073709551616 from by decide +kernel]
    simp only [Int.pow_succ, Int.pow_zero, Int.one_mul]
    generalize (2 : Int) ^ mm.toNat = D
    omega
  have e' : (2 : Int) ^ (k + 1) = (18446744073709551616 * 2 ^ (mm.toNat + 1)) := by
    rw [pow_succ2, e, pow_succ2]
    generalize (2 : Int) ^ mm.toNat = D
    omega
  rw [w, e]
  rw [e'] at hl
  exact L_bit1 q mm.toNat hmt hl
theorem set_bit_2 (q mm : Int) (k : Nat) (hk : (k : Int) / 64 = 2) (hm : (k : Int) % 64 = mm) (hl : q % 2 ^ (k + 1) = 0) : L0 q = L0 (q + 2 ^ k) ∧ L1 q = L1 (q + 2 ^ k) ∧ bits .or .u64 (L2 q) (IntKind.u64.wrap (2 ^ mm.toNat)) = L2 (q + 2 ^ k) ∧ L3 q = L3 (q + 2 ^ k) := by
  have hmt : mm.toNat ≤ 63 := by omega
  have w : IntKind.u64.wrap (2 ^ mm.toNat) = 2 ^ mm.toNat := by
    rw [IntKind.wrap_u64]
    have p := pow_pos2 mm.toNat
    have l := (pow_split mm.toNat hmt)
    have l2 : (2 : Int) ^ mm.toNat ≤ 2 ^ 63 := by exact_mod_cast Nat.pow_le_pow_right (by omega : 0 < 2) hmt
    have l3 : (2 : Int) ^ 63 = 9223372036854775808 := by decide +kernel
    exact Int.emod_eq_of_lt (by omega) (by omega)
  have e : (2 : Int) ^ k = (18446744073709551616 * (18446744073709551616 * 2 ^ mm.toNat)) := by
    rw [show k = mm.toNat + 64 * 2 by omega, Int.pow_add, Int.pow_mul, show (2 : Int) ^ 64 = 18446744073709551616 from by decide +kernel]
    simp only [Int.pow_succ, Int.pow_zero, Int.one_mul]
    generalize (2 : Int) ^ mm.toNat = D
    omega
  have e' : (2 : Int) ^ (k + 1) = (18446744073709551616 * (18446744073709551616 * 2 ^ (mm.toNat + 1))) := by
    rw [pow_succ2, e, pow_succ2]
    generalize (2 : Int) ^ mm.toNat = D
    omega
  rw [w, e]
  rw [e'] at hl
  exact L_bit2 q mm.toNat hmt hl
theorem set_bit_3 (q mm : Int) (k : Nat) (hk : (k : Int) / 64 = 3) (hm : (k : Int) % 64 = mm) (hl : q % 2 ^ (k + 1) = 0) : L0 q = L0 (q + 2 ^ k) ∧ L1 q = L1 (q + 2 ^ k) ∧ L2 q = L2 (q + 2 ^ k) ∧ bits .or .u64 (L3 q) (IntKind.u64.wrap (2 ^ mm.toNat)) = L3 (q + 2 ^ k) := by
  have hmt : mm.toNat ≤ 63 := by omega
  have w : IntKind.u64.wrap (2 ^ mm.toNat) = 2 ^ mm.toNat := by
    rw [IntKind.wrap_u64]
    have p := pow_pos2 mm.toNat
    have l := (pow_split mm.toNat hmt)
    have l2 : (2 : Int) ^ mm.toNat ≤ 2 ^ 63 := by exact_mod_cast Nat.pow_le_pow_right (by omega : 0 < 2) hmt
    have l3 : (2 : Int) ^ 63 = 9223372036854775808 := by decide +kernel
    exact Int.emod_eq_of_lt (by omega) (by omega)
  have e : (2 : Int) ^ k = (18446744073709551616 * (18446744073709551616 * (18446744073709551616 * 2 ^ mm.toNat))) := by
    rw [show k = mm.toNat + 64 * 3 by omega, Int.pow_add, Int.pow_mul, show (2 : Int) ^ 64 = 18446744073709551616 from by decide +kernel]
    simp only [Int.pow_succ, Int.pow_zero, Int.one_mul]
    generalize (2 : Int) ^ mm.toNat = D
    omega
  have e' : (2 : Int) ^ (k + 1) = (18446744073709551616 * (18446744073709551616 * (18446744073709551616 * 2 ^ (mm.toNat + 1)))) := by
    rw [pow_succ2, e, pow_succ2]
    generalize (2 : Int) ^ mm.toNat = D
    omega
  rw [w, e]
  rw [e'] at hl
  exact L_bit3 q mm.toNat hmt hl
/-- the words of a number, by their places -/
def Lf (z : Int) : Nat → Int
  | 0 => L0 z
  | 1 => L1 z
  | 2 => L2 z
  | _ => L3 z
end Go.Proofs.Ythakafnecddliaa
end
