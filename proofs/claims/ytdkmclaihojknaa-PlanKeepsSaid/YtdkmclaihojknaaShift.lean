
/- Plain mathematics: numbers of 256 bits moved up and down. It speaks of no program. -/
import Derived.Test.YtdkmclaihojknaaRatM
namespace Go.Proofs.Ytdkmclaihojknaa

theorem ediv2 (a : Int) {P : Int} (Q : Int) (hP : 0 ≤ P) : a / P / Q = a / (P * Q) := by
  rw [Int.ediv_ediv, if_neg (by omega)]; omega
theorem up_step (x t c P Q B : Int) (hP : 0 < P) (hQ : 0 < Q) (hB : P * Q = B) (hc0 : 0 ≤ c) (hc : c < P) :
    ((x + B * t) * P + c) / B = t * P + x / Q ∧ ((x + B * t) * P + c) % B = x * P % B + c := by
  have hB0 : 0 < B := by rw [← hB]; exact Int.mul_pos hP hQ
  have e : (x + B * t) * P + c = (x * P + c) + B * (t * P) := by rw [Int.add_mul, Int.mul_assoc]; omega
  have d : ∀ c, 0 ≤ c → c < P → (x * P + c) / B = x / Q := fun c h0 h1 => by
    rw [← hB, ← ediv2 _ _ (Int.le_of_lt hP), Int.add_comm, Int.add_mul_ediv_right _ _ (by omega), Int.ediv_eq_zero_of_lt h0 h1, Int.zero_add]
  have d0 := d 0 (Int.le_refl 0) hP
  have d1 := d c hc0 hc
  rw [Int.add_zero] at d0
  rw [e, Int.add_mul_ediv_left _ _ (by omega), Int.add_mul_emod_self_left, d1]
  refine ⟨by omega, ?_⟩
  rw [Int.emod_def, d1, Int.emod_def, d0]; omega
theorem dn_step (x t P Q B : Int) (hP : 0 < P) (hB : P * Q = B) : (x + B * t) / P = x / P + Q * t := by
  rw [← hB, Int.mul_assoc, Int.add_mul_ediv_left _ _ (by omega)]
theorem dn_mod (x y u P Q B : Int) (hP : 0 < P) (hQ : 0 < Q) (hB : P * Q = B) (hx0 : 0 ≤ x) (hx : x < B) : (x / P + Q * (y + B * u)) % B = x / P + y * Q % B := by
  have hB0 : 0 < B := by rw [← hB]; exact Int.mul_pos hP hQ
  have e : x / P + Q * (y + B * u) = (x / P + Q * y) + B * (Q * u) := by rw [Int.mul_add, ← Int.mul_assoc Q B, Int.mul_comm Q B, Int.mul_assoc]; omega
  have m : y * Q % B = Q * (y % P) := by rw [← hB, Int.mul_comm P Q, Int.mul_comm y Q, Int.mul_emod_mul_of_pos _ _ hQ]
  have l : x / P < Q := Int.ediv_lt_of_lt_mul hP (by rw [Int.mul_comm, hB]; exact hx)
  have l0 : 0 ≤ x / P := Int.ediv_nonneg hx0 (by omega)
  have y0 := Int.emod_nonneg y (show P ≠ 0 by omega)
  have y1 := Int.emod_lt_of_pos y hP
  rw [e, Int.add_mul_emod_self_left, m]
  have hs : Q * (y % P) + Q ≤ B := by
    have h : Q * (y % P) + Q = Q * (y % P + 1) := by rw [Int.mul_add, Int.mul_one]
    have k : Q * (y % P + 1) ≤ Q * P := Int.mul_le_mul_of_nonneg_left (by omega) (by omega)
    rw [Int.mul_comm Q P, hB] at k
    omega
  have hp : 0 ≤ Q * (y % P) := Int.mul_nonneg (by omega) y0
  have q : x / P + Q * y = x / P + Q * (y % P) + B * (y / P) := by
    have h : y = P * (y / P) + y % P := (Int.mul_ediv_add_emod y P).symm
    have h2 : Q * y = Q * (P * (y / P)) + Q * (y % P) := by rw [← Int.mul_add, ← h]
    rw [← Int.mul_assoc, Int.mul_comm Q P, hB] at h2
    omega
  rw [q, Int.add_mul_emod_self_left]
  exact Int.emod_eq_of_lt (by omega) (by omega)
theorem pow_split (r : Nat) (hr : r ≤ 63) : (0 : Int) < 2 ^ r ∧ (0 : Int) < 2 ^ (64 - r) ∧ (2 : Int) ^ r * 2 ^ (64 - r) = 18446744073709551616 := by
  refine ⟨Int.pow_pos (by decide), Int.pow_pos (by decide), ?_⟩
  rw [← Int.pow_add, show r + (64 - r) = 64 by omega]
  rfl
theorem mod2 (a p q : Int) : a % (p * q) % p = a % p := Int.emod_emod_of_dvd a (Int.dvd_mul_right p q)
theorem or_up (x y : Int) (r : Nat) (hr : r ≤ 63) (hy : 0 ≤ y) (hy' : y ≤ 18446744073709551615) :
    bits .or .u64 (IntKind.u64.wrap (x * 2 ^ r)) (y / 2 ^ (64 - r)) = x * 2 ^ r % 18446744073709551616 + y / 2 ^ (64 - r) := by
  obtain ⟨hP, hQ, hB⟩ := pow_split r hr
  rw [IntKind.wrap_u64]
  have l : y / 2 ^ (64 - r) < 2 ^ r := Int.ediv_lt_of_lt_mul hQ (by rw [hB]; omega)
  have l0 : 0 ≤ y / 2 ^ (64 - r) := Int.ediv_nonneg hy (by omega)
  have l1 : (2 : Int) ^ r ≤ 18446744073709551616 := by rw [← hB]; exact (by have := Int.mul_le_mul_of_nonneg_left (show (1 : Int) ≤ 2 ^ (64 - r) by omega) (Int.le_of_lt hP); omega)
  refine bits_or_add _ _ r (by omega) (by omega) l0 l (by omega) ?_
  rw [← hB, mod2, Int.mul_emod_left]
theorem or_dn (x y : Int) (r : Nat) (hr : r ≤ 63) (hx : 0 ≤ x) (hx' : x ≤ 18446744073709551615) :
    bits .or .u64 (x / 2 ^ r) (IntKind.u64.wrap (y * 2 ^ (64 - r))) = x / 2 ^ r + y * 2 ^ (64 - r) % 18446744073709551616 := by
  obtain ⟨hP, hQ, hB⟩ := pow_split r hr
  rw [IntKind.wrap_u64]
  have l : x / 2 ^ r < 2 ^ (64 - r) := Int.ediv_lt_of_lt_mul hP (by rw [Int.mul_comm, hB]; omega)
  have l0 : 0 ≤ x / 2 ^ r := Int.ediv_nonneg hx (by omega)
  have l1 : (2 : Int) ^ (64 - r) ≤ 18446744073709551616 := by rw [← hB]; exact (by have := Int.mul_le_mul_of_nonneg_right (show (1 : Int) ≤ 2 ^ r by omega) (Int.le_of_lt hQ); omega)
  have c : bits .or .u64 (x / 2 ^ r) (y * 2 ^ (64 - r) % 18446744073709551616) = bits .or .u64 (y * 2 ^ (64 - r) % 18446744073709551616) (x / 2 ^ r) := by
    obtain ⟨u, hu⟩ := Int.eq_ofNat_of_zero_le l0
    obtain ⟨v, hv⟩ := Int.eq_ofNat_of_zero_le (show 0 ≤ y * 2 ^ (64 - r) % 18446744073709551616 by omega)
    rw [hu, hv]
    refine (u64_or_nat u v (by omega) (by omega)).trans (Eq.trans ?_ (u64_or_nat v u (by omega) (by omega)).symm)
    rw [Nat.or_comm]
  rw [c, Int.add_comm]
  refine bits_or_add _ _ (64 - r) (by omega) (by omega) l0 l (by omega) ?_
  rw [← hB, Int.mul_comm (2 ^ r), mod2, Int.mul_emod_left]
/-- moved up by fewer than 64 -/
theorem L_up (a : Int) (r : Nat) (hr : r ≤ 63) :
    IntKind.u64.wrap (L0 a * 2 ^ r) = L0 (a * 2 ^ r) ∧
    bits .or .u64 (IntKind.u64.wrap (L1 a * 2 ^ r)) (L0 a / 2 ^ (64 - r)) = L1 (a * 2 ^ r) ∧
    bits .or .u64 (IntKind.u64.wrap (L2 a * 2 ^ r)) (L1 a / 2 ^ (64 - r)) = L2 (a * 2 ^ r) ∧
    bits .or .u64 (IntKind.u64.wrap (L3 a * 2 ^ r)) (L2 a / 2 ^ (64 - r)) = L3 (a * 2 ^ r) := by
  obtain ⟨w0, w0', w1, w1', w2, w2', w3, w3'⟩ := W4.of a
  rw [or_up _ _ r hr w0 w0', or_up _ _ r hr w1 w1', or_up _ _ r hr w2 w2', IntKind.wrap_u64]
  obtain ⟨hP, hQ, hB⟩ := pow_split r hr
  have q : ∀ y : Int, 0 ≤ y → y ≤ 18446744073709551615 → 0 ≤ y / 2 ^ (64 - r) ∧ y / 2 ^ (64 - r) < 2 ^ r := fun y h0 h1 =>
    ⟨Int.ediv_nonneg h0 (by omega), Int.ediv_lt_of_lt_mul hQ (by rw [hB]; omega)⟩
  have e0 : a = L0 a + 18446744073709551616 * (a / 18446744073709551616) := by unfold L0; omega
  have e1 : a / 18446744073709551616 = L1 a + 18446744073709551616 * (a / 18446744073709551616 / 18446744073709551616) := by unfold L1; omega
  have e2 : a / 18446744073709551616 / 18446744073709551616 = L2 a + 18446744073709551616 * (a / 18446744073709551616 / 18446744073709551616 / 18446744073709551616) := by unfold L2; omega
  have e3 : a / 18446744073709551616 / 18446744073709551616 / 18446744073709551616 = L3 a + 18446744073709551616 * (a / 18446744073709551616 / 18446744073709551616 / 18446744073709551616 / 18446744073709551616) := by unfold L3; omega
  obtain ⟨f0, g0⟩ := up_step (L0 a) (a / 18446744073709551616) 0 (2 ^ r) (2 ^ (64 - r)) 18446744073709551616 hP hQ hB (Int.le_refl 0) hP
  obtain ⟨f1, g1⟩ := up_step (L1 a) (a / 18446744073709551616 / 18446744073709551616) (L0 a / 2 ^ (64 - r)) (2 ^ r) (2 ^ (64 - r)) 18446744073709551616 hP hQ hB (q _ w0 w0').1 (q _ w0 w0').2
  obtain ⟨f2, g2⟩ := up_step (L2 a) (a / 18446744073709551616 / 18446744073709551616 / 18446744073709551616) (L1 a / 2 ^ (64 - r)) (2 ^ r) (2 ^ (64 - r)) 18446744073709551616 hP hQ hB (q _ w1 w1').1 (q _ w1 w1').2
  obtain ⟨f3, g3⟩ := up_step (L3 a) (a / 18446744073709551616 / 18446744073709551616 / 18446744073709551616 / 18446744073709551616) (L2 a / 2 ^ (64 - r)) (2 ^ r) (2 ^ (64 - r)) 18446744073709551616 hP hQ hB (q _ w2 w2').1 (q _ w2 w2').2
  rw [← e0, Int.add_zero] at f0 g0
  rw [← e1, ← f0] at f1 g1
  rw [← e2, ← f1] at f2 g2
  rw [← e3, ← f2] at f3 g3
  rw [← g1, ← g2, ← g3, ← Int.add_zero (L0 a * 2 ^ r % 18446744073709551616), ← g0]
  exact ⟨rfl, rfl, rfl, rfl⟩
/-- moved down by fewer than 64 -/
theorem L_dn (a : Int) (h : Siz a) (r : Nat) (hr : r ≤ 63) :
    bits .or .u64 (L0 a / 2 ^ r) (IntKind.u64.wrap (L1 a * 2 ^ (64 - r))) = L0 (a / 2 ^ r) ∧
    bits .or .u64 (L1 a / 2 ^ r) (IntKind.u64.wrap (L2 a * 2 ^ (64 - r))) = L1 (a / 2 ^ r) ∧
    bits .or .u64 (L2 a / 2 ^ r) (IntKind.u64.wrap (L3 a * 2 ^ (64 - r))) = L2 (a / 2 ^ r) ∧
    L3 a / 2 ^ r = L3 (a / 2 ^ r) := by
  obtain ⟨w0, w0', w1, w1', w2, w2', w3, w3'⟩ := W4.of a
  rw [or_dn _ _ r hr w0 w0', or_dn _ _ r hr w1 w1', or_dn _ _ r hr w2 w2']
  obtain ⟨hP, hQ, hB⟩ := pow_split r hr
  have e0 : a = L0 a + 18446744073709551616 * (a / 18446744073709551616) := by unfold L0; omega
  have e1 : a / 18446744073709551616 = L1 a + 18446744073709551616 * (a / 18446744073709551616 / 18446744073709551616) := by unfold L1; omega
  have e2 : a / 18446744073709551616 / 18446744073709551616 = L2 a + 18446744073709551616 * (a / 18446744073709551616 / 18446744073709551616 / 18446744073709551616) := by unfold L2; omega
  have e3 : a / 18446744073709551616 / 18446744073709551616 / 18446744073709551616 = L3 a := by unfold L3; obtain ⟨_, _⟩ := h; omega
  have sw : ∀ x : Int, x / 2 ^ r / 18446744073709551616 = x / 18446744073709551616 / 2 ^ r := fun x => by
    rw [ediv2 _ _ (Int.le_of_lt hP), ediv2 _ _ (by omega), Int.mul_comm]
  have f0 := dn_step (L0 a) (a / 18446744073709551616) (2 ^ r) (2 ^ (64 - r)) 18446744073709551616 hP hB
  have f1 := dn_step (L1 a) (a / 18446744073709551616 / 18446744073709551616) (2 ^ r) (2 ^ (64 - r)) 18446744073709551616 hP hB
  have f2 := dn_step (L2 a) (a / 18446744073709551616 / 18446744073709551616 / 18446744073709551616) (2 ^ r) (2 ^ (64 - r)) 18446744073709551616 hP hB
  have g0 := dn_mod (L0 a) (L1 a) (a / 18446744073709551616 / 18446744073709551616) (2 ^ r) (2 ^ (64 - r)) 18446744073709551616 hP hQ hB w0 (by omega)
  have g1 := dn_mod (L1 a) (L2 a) (a / 18446744073709551616 / 18446744073709551616 / 18446744073709551616) (2 ^ r) (2 ^ (64 - r)) 18446744073709551616 hP hQ hB w1 (by omega)
  have g2 := dn_mod (L2 a) (L3 a) 0 (2 ^ r) (2 ^ (64 - r)) 18446744073709551616 hP hQ hB w2 (by omega)
  rw [← e1, ← f0, ← e0] at g0
  rw [← e2, ← f1, ← e1] at g1
  rw [Int.mul_zero, Int.add_zero, ← e3, ← f2, ← e2, e3] at g2
  have g3 : L3 a / 2 ^ r = L3 (a / 2 ^ r) := by
    show L3 a / 2 ^ r = a / 2 ^ r / 18446744073709551616 / 18446744073709551616 / 18446744073709551616 % 18446744073709551616
    rw [sw, sw, sw, e3]
    have l : L3 a / 2 ^ r ≤ L3 a := Int.ediv_le_self _ w3
    have l0 : 0 ≤ L3 a / 2 ^ r := Int.ediv_nonneg w3 (by omega)
    have l1 : L3 a / 2 ^ r < 18446744073709551616 := by omega
    exact (Int.emod_eq_of_lt l0 l1).symm
  refine ⟨g0.symm.trans rfl, ?_, ?_, g3⟩
  · rw [← g1]; unfold L1; rw [sw]
  · rw [← g2]; unfold L2; rw [sw, sw]
theorem L_word (a : Int) : L0 (a * 18446744073709551616) = 0 ∧ L1 (a * 18446744073709551616) = L0 a ∧ L2 (a * 18446744073709551616) = L1 a ∧ L3 (a * 18446744073709551616) = L2 a := by
  unfold L0 L1 L2 L3; omega
theorem L_drop (a : Int) (h : Siz a) : L0 (a / 18446744073709551616) = L1 a ∧ L1 (a / 18446744073709551616) = L2 a ∧ L2 (a / 18446744073709551616) = L3 a ∧ L3 (a / 18446744073709551616) = 0 := by
  obtain ⟨_, _⟩ := h
  unfold L0 L1 L2 L3; omega
theorem pow_words (n r : Nat) (k : Nat) (h : n = r + 64 * k) : (2 : Int) ^ n = 2 ^ r * 18446744073709551616 ^ k := by
  rw [h, Int.pow_add, Int.pow_mul]; rfl
theorem Siz.div {a : Int} (h : Siz a) {p : Int} (hp : 0 < p) : Siz (a / p) := by
  obtain ⟨h0, h1⟩ := h
  have l : a / p ≤ a := Int.ediv_le_self _ h0
  have l0 : 0 ≤ a / p := Int.ediv_nonneg h0 (by omega)
  exact ⟨l0, by omega⟩
theorem Siz.small {a : Int} (h : Siz a) (n : Nat) (hn : 256 ≤ n) : a / 2 ^ n = 0 := by
  obtain ⟨h0, h1⟩ := h
  refine Int.ediv_eq_zero_of_lt h0 ?_
  have e : (2 : Int) ^ 256 ≤ 2 ^ n := by exact_mod_cast Nat.pow_le_pow_right (by omega : 0 < 2) hn
  have e2 : (2 : Int) ^ 256 = 115792089237316195423570985008687907853269984665640564039457584007913129639936 := by decide +kernel
  omega
end Go.Proofs.Ytdkmclaihojknaa
