
/- Plain mathematics of the sum of 32 bits: a register that is moved on bit by bit is linear; bytes as one number. It speaks of no program. -/
import Derived.Laws.BitsAllLaws
import Derived.RowKit
namespace Go.Proofs.Ytjaehhjehedjoaa

/-- the register moved on by one bit -/
def stp (r : Nat) : Nat := if r % 2 = 1 then (r / 2) ^^^ 3988292384 else r / 2
def stpN : Nat → Nat → Nat
  | 0, r => r
  | k + 1, r => stpN k (stp r)

theorem stp_xor (a b : Nat) : stp (a ^^^ b) = stp a ^^^ stp b := by
  unfold stp
  have h1 : (a ^^^ b) % 2 = 1 ↔ ¬(a % 2 = 1 ↔ b % 2 = 1) := by
    have ha := Nat.testBit_zero a
    have hb := Nat.testBit_zero b
    have hab := Nat.testBit_zero (a ^^^ b)
    rw [Nat.testBit_xor, ha, hb] at hab
    by_cases x : a % 2 = 1 <;> by_cases y : b % 2 = 1 <;> simp [x, y] at hab ⊢ <;> omega
  have h2 : (a ^^^ b) / 2 = (a / 2) ^^^ (b / 2) := by
    apply Nat.eq_of_testBit_eq
    intro i
    simp [Nat.testBit_div_two, Nat.testBit_xor]
  rw [h2]
  by_cases x : a % 2 = 1 <;> by_cases y : b % 2 = 1
  · rw [if_pos x, if_pos y, if_neg (by rw [h1]; simp [x, y])]
    apply Nat.eq_of_testBit_eq; intro i; simp only [Nat.testBit_xor]; cases (a / 2).testBit i <;> cases (b / 2).testBit i <;> simp
  · rw [if_pos x, if_neg y, if_pos (by rw [h1]; simp [x, y])]
    apply Nat.eq_of_testBit_eq; intro i; simp only [Nat.testBit_xor]; cases (a / 2).testBit i <;> cases (b / 2).testBit i <;> simp
  · rw [if_neg x, if_pos y, if_pos (by rw [h1]; simp [x, y])]
    apply Nat.eq_of_testBit_eq; intro i; simp only [Nat.testBit_xor]; cases (a / 2).testBit i <;> cases (b / 2).testBit i <;> simp
  · rw [if_neg x, if_neg y, if_neg (by rw [h1]; simp [x, y])]

theorem stpN_xor (k a b : Nat) : stpN k (a ^^^ b) = stpN k a ^^^ stpN k b := by
  induction k generalizing a b with
  | zero => rfl
  | succ k ih => unfold stpN; rw [stp_xor, ih]
theorem stpN_add (j k r : Nat) : stpN (j + k) r = stpN k (stpN j r) := by
  induction j generalizing r with
  | zero => simp [stpN]
  | succ j ih => rw [show j + 1 + k = (j + k) + 1 by omega]; exact ih (stp r)
theorem stpN_snoc (k r : Nat) : stpN (k + 1) r = stp (stpN k r) := stpN_add k 1 r
theorem stpN_zero (k : Nat) : stpN k 0 = 0 := by
  induction k with
  | zero => rfl
  | succ k ih => unfold stpN; exact ih
theorem stp_lt (r : Nat) (h : r < 4294967296) : stp r < 4294967296 := by
  unfold stp
  split
  · exact Nat.xor_lt_two_pow (n := 32) (by omega) (by omega)
  · omega
theorem stpN_lt (k r : Nat) (h : r < 4294967296) : stpN k r < 4294967296 := by
  induction k generalizing r with
  | zero => exact h
  | succ k ih => unfold stpN; exact ih _ (stp_lt r h)
theorem stp_ne (r : Nat) (h : r < 4294967296) (h0 : r ≠ 0) : stp r ≠ 0 := by
  unfold stp
  split
  · intro hx
    have : r / 2 = 3988292384 := by
      have e : (r / 2 ^^^ 3988292384) ^^^ 3988292384 = 0 ^^^ 3988292384 := by rw [hx]
      rw [Nat.xor_assoc, Nat.xor_self, Nat.xor_zero, Nat.zero_xor] at e
      exact e
    omega
  · omega
theorem stpN_ne (k r : Nat) (h : r < 4294967296) (h0 : r ≠ 0) : stpN k r ≠ 0 := by
  induction k generalizing r with
  | zero => exact h0
  | succ k ih => unfold stpN; exact ih _ (stp_lt r h) (stp_ne r h h0)
theorem stpN_inj (k a b : Nat) (ha : a < 4294967296) (hb : b < 4294967296) (h : stpN k a = stpN k b) : a = b := by
  have h1 : stpN k (a ^^^ b) = 0 := by rw [stpN_xor, h, Nat.xor_self]
  have h2 : a ^^^ b < 4294967296 := Nat.xor_lt_two_pow (n := 32) ha hb
  have h3 : a ^^^ b = 0 := Classical.byContradiction fun h0 => stpN_ne k _ h2 h0 h1
  have e : (a ^^^ b) ^^^ b = 0 ^^^ b := by rw [h3]
  rw [Nat.xor_assoc, Nat.xor_self, Nat.xor_zero, Nat.zero_xor] at e
  exact e
theorem stp_two (x : Nat) : stp (2 * x) = x := by unfold stp; rw [if_neg (by omega)]; omega
theorem stpN_shift (k x : Nat) : stpN k (2 ^ k * x) = x := by
  induction k generalizing x with
  | zero => simp [stpN]
  | succ k ih => unfold stpN; rw [Nat.pow_succ, Nat.mul_comm (2 ^ k) 2, Nat.mul_assoc, stp_two, ih]

/-- bytes as one number, the lowest first -/
def num : List UInt8 → Nat
  | [] => 0
  | b :: l => b.toNat + 256 * num l
theorem num_lt (l : List UInt8) : num l < 256 ^ l.length := by
  induction l with
  | nil => simp [num]
  | cons b l ih =>
    have := b.toNat_lt
    simp only [num, List.length_cons, Nat.pow_succ]
    omega
theorem num_append (l m : List UInt8) : num (l ++ m) = num l + 256 ^ l.length * num m := by
  induction l with
  | nil => simp [num]
  | cons b l ih =>
    simp only [num, List.cons_append, List.length_cons, Nat.pow_succ, ih, Nat.mul_add]
    rw [← Nat.mul_assoc, Nat.mul_comm 256 (256 ^ l.length)]
    omega
theorem add_xor (a b k : Nat) (h : a < 2 ^ k) : a + 2 ^ k * b = a ^^^ (2 ^ k * b) := by
  rw [Nat.add_comm, Nat.two_pow_add_eq_or_of_lt h]
  apply Nat.eq_of_testBit_eq
  intro i
  simp only [Nat.testBit_or, Nat.testBit_xor, Nat.testBit_two_pow_mul]
  by_cases hi : k ≤ i
  · have : a.testBit i = false := Nat.testBit_lt_two_pow (Nat.lt_of_lt_of_le h (Nat.pow_le_pow_right (by omega) hi))
    simp [this]
  · simp [hi]

/-- the register behind a text -/
def regL (r : Nat) (l : List UInt8) : Nat := l.foldl (fun r b => stpN 8 (r ^^^ b.toNat)) r
theorem regL_append (r : Nat) (l m : List UInt8) : regL r (l ++ m) = regL (regL r l) m := by unfold regL; rw [List.foldl_append]
theorem regL_snoc (r : Nat) (l : List UInt8) (b : UInt8) : regL r (l ++ [b]) = stpN 8 (regL r l ^^^ b.toNat) := by rw [regL_append]; rfl
theorem regL_lt (r : Nat) (l : List UInt8) (h : r < 4294967296) : regL r l < 4294967296 := by
  induction l generalizing r with
  | nil => exact h
  | cons b l ih => exact ih _ (stpN_lt 8 _ (Nat.xor_lt_two_pow (n := 32) h (by have := b.toNat_lt; omega)))
/-- a text moves the register on as the number that it is does, all at once -/
theorem regL_num (r : Nat) (l : List UInt8) : regL r l = stpN (8 * l.length) (r ^^^ num l) := by
  induction l generalizing r with
  | nil => simp [regL, num, stpN]
  | cons b l ih =>
    show regL (stpN 8 (r ^^^ b.toNat)) l = _
    rw [ih]
    have hb : b.toNat < 2 ^ 8 := b.toNat_lt
    have e : num (b :: l) = b.toNat ^^^ (2 ^ 8 * num l) := by rw [← add_xor _ _ _ hb]; rfl
    rw [e, List.length_cons, show 8 * (l.length + 1) = 8 + 8 * l.length by omega, stpN_add, ← Nat.xor_assoc, stpN_xor 8 (r ^^^ b.toNat), stpN_shift]

/-- the sum of a text -/
def sumL (l : List UInt8) : Nat := 4294967295 - regL 4294967295 l
theorem sumL_lt (l : List UInt8) : sumL l < 4294967296 := by unfold sumL; omega
theorem not_xor (a : Nat) (h : a < 4294967296) : 4294967295 - a = a ^^^ 4294967295 := by
  have h1 : (BitVec.ofNat 32 a ^^^ BitVec.allOnes 32).toNat = a ^^^ 4294967295 := by
    rw [BitVec.toNat_xor, BitVec.toNat_ofNat, BitVec.toNat_allOnes, Nat.mod_eq_of_lt h]
  rw [← h1, BitVec.xor_allOnes, BitVec.toNat_not, BitVec.toNat_ofNat, Nat.mod_eq_of_lt h]

/-- a text of which the last four bytes are the sum's leaves just one register -/
theorem sealed_iff (l m : List UInt8) (hm : m.length = 4) : num m = sumL l ↔ regL 4294967295 (l ++ m) = stpN 32 4294967295 := by
  have hr := regL_lt 4294967295 l (by omega)
  have hn : num m < 4294967296 := by have := num_lt m; rw [hm] at this; simpa using this
  rw [regL_append, regL_num _ m, hm]
  unfold sumL
  generalize regL 4294967295 l = r at *
  generalize num m = n at *
  rw [not_xor r hr]
  constructor
  · rintro rfl
    rw [← Nat.xor_assoc, Nat.xor_self, Nat.zero_xor]
  · intro h
    have := stpN_inj _ _ _ (Nat.xor_lt_two_pow (n := 32) hr hn) (by omega) h
    rw [← this, ← Nat.xor_assoc, Nat.xor_self, Nat.zero_xor]

/-- of a text that leaves that register, one with bits turned among 32 in a row leaves another -/
theorem turned (l m : List UInt8) (at_ x : Nat) (hl : m.length = l.length) (hx : x < 4294967296) (h0 : x ≠ 0) (ha : at_ ≤ 8 * l.length) (hn : num m = num l ^^^ (2 ^ at_ * x)) : regL 4294967295 m ≠ regL 4294967295 l := by
  rw [regL_num, regL_num, hl, hn, ← Nat.xor_assoc, stpN_xor, show 8 * l.length = at_ + (8 * l.length - at_) by omega]
  rw [stpN_add at_ _ (2 ^ at_ * x), stpN_shift]
  intro h
  have h1 := stpN_ne (8 * l.length - at_) x hx h0
  apply h1
  generalize stpN (8 * l.length - at_) x = y at *
  generalize stpN (at_ + (8 * l.length - at_)) (4294967295 ^^^ num l) = z at *
  have e : z ^^^ (z ^^^ y) = z ^^^ z := by rw [h]
  rw [← Nat.xor_assoc, Nat.xor_self, Nat.zero_xor] at e
  exact e

theorem num_testBit (l : List UInt8) (p : Nat) : (num l).testBit p = (l.getD (p / 8) 0).toNat.testBit (p % 8) := by
  induction l generalizing p with
  | nil => simp [num]
  | cons b l ih =>
    have hb : b.toNat < 2 ^ 8 := b.toNat_lt
    have e : num (b :: l) = b.toNat ^^^ (2 ^ 8 * num l) := by rw [← add_xor _ _ _ hb]; rfl
    rw [e, Nat.testBit_xor, Nat.testBit_two_pow_mul]
    by_cases h : 8 ≤ p
    · have hb' : b.toNat.testBit p = false := Nat.testBit_lt_two_pow (Nat.lt_of_lt_of_le hb (Nat.pow_le_pow_right (by omega) h))
      have ep : p / 8 = (p - 8) / 8 + 1 := by omega
      have em : p % 8 = (p - 8) % 8 := by omega
      rw [hb', ih, ep, em]
      simp [h]
    · have ep : p / 8 = 0 := by omega
      have em : p % 8 = p := by omega
      rw [ep, em]
      simp [h]
/-- one bit turned in one byte -/
theorem num_set (l : List UInt8) (p : Nat) (v : UInt8) (hp : p / 8 < l.length) (hv : v.toNat = (l.getD (p / 8) 0).toNat ^^^ 2 ^ (p % 8)) : num (l.set (p / 8) v) = num l ^^^ 2 ^ p := by
  apply Nat.eq_of_testBit_eq
  intro i
  rw [Nat.testBit_xor, num_testBit, num_testBit, Nat.testBit_two_pow]
  by_cases h : i / 8 = p / 8
  · have e1 : (l.set (p / 8) v).getD (i / 8) 0 = v := by rw [h]; simp [List.getD_eq_getElem?_getD, hp]
    rw [e1, hv, Nat.testBit_xor, Nat.testBit_two_pow, h]
    congr 1
    rw [decide_eq_decide]
    omega
  · have e1 : (l.set (p / 8) v).getD (i / 8) 0 = l.getD (i / 8) 0 := by simp [List.getD_eq_getElem?_getD, List.getElem?_set_ne (by omega : p / 8 ≠ i / 8)]
    rw [e1]
    have : decide (p = i) = false := by simp; omega
    rw [this]; simp

/-- one bit of a text, and the register behind it -/
theorem stp_bit (r b : Nat) : stp (r ^^^ b) = stp (r ^^^ (b % 2)) ^^^ (b / 2) := by
  have e : b = (b % 2) ^^^ (2 ^ 1 * (b / 2)) := by rw [← add_xor _ _ _ (by omega)]; omega
  conv => lhs; rw [e]
  rw [← Nat.xor_assoc, stp_xor]
  congr 1
  exact stp_two _
theorem low_xor (r b : Nat) (hb : b < 2) : (r ^^^ b) / 2 = r / 2 := by
  apply Nat.eq_of_testBit_eq
  intro i
  rw [Nat.testBit_div_two, Nat.testBit_xor, Nat.testBit_div_two]
  have h2 : 2 ^ 1 ≤ 2 ^ (i + 1) := Nat.pow_le_pow_right (by omega) (by omega)
  have : b.testBit (i + 1) = false := Nat.testBit_lt_two_pow (by omega)
  simp [this]
/-- bit i of the register moved on -/
theorem stp_testBit (r c i : Nat) (hc : c < 2) : (stp (r ^^^ c)).testBit i = ((r / 2).testBit i != ((r.testBit 0 != (c == 1)) && (3988292384 : Nat).testBit i)) := by
  have h0 : ((r ^^^ c) % 2 = 1) ↔ (r.testBit 0 != (c == 1)) = true := by
    have h := Nat.testBit_zero (r ^^^ c)
    rw [Nat.testBit_xor] at h
    have hz : c.testBit 0 = (c == 1) := by
      rw [Nat.testBit_zero]
      have : c % 2 = c := by omega
      rw [this]; rfl
    rw [hz] at h
    have hx : ∀ a b : Bool, (a ^^ b) = (a != b) := by decide
    rw [hx] at h
    rw [h]; simp
  unfold stp
  rw [low_xor r c hc]
  by_cases h : (r ^^^ c) % 2 = 1
  · rw [if_pos h, h0.1 h, Nat.testBit_xor]
    cases (r / 2).testBit i <;> cases (3988292384 : Nat).testBit i <;> rfl
  · have hf : (r.testBit 0 != (c == 1)) = false := by
      cases hh : (r.testBit 0 != (c == 1))
      · rfl
      · exact absurd (h0.2 hh) h
    rw [if_neg h, hf]
    simp
theorem testBit_eq (a b : Nat) (ha : a < 4294967296) (hb : b < 4294967296) (h : ∀ i, i < 32 → a.testBit i = b.testBit i) : a = b := by
  apply Nat.eq_of_testBit_eq
  intro i
  by_cases hi : i < 32
  · exact h i hi
  · rw [Nat.testBit_lt_two_pow (x := a), Nat.testBit_lt_two_pow (x := b)]
    · exact Nat.lt_of_lt_of_le hb (by have := Nat.pow_le_pow_right (n := 2) (by omega) (show 32 ≤ i by omega); omega)
    · exact Nat.lt_of_lt_of_le ha (by have := Nat.pow_le_pow_right (n := 2) (by omega) (show 32 ≤ i by omega); omega)
/-- the bits turned, told from the top -/
theorem not_step (r j : Nat) (hr : r < 4294967296) (hj : j < 32) : 2 * ((4294967295 - r) / 2 ^ (j + 1)) + (if r.testBit j then 0 else 1) = (4294967295 - r) / 2 ^ j := by
  have e : (4294967295 - r).testBit j = !r.testBit j := by
    have := Nat.testBit_two_pow_sub_succ (x := r) (n := 32) (by omega) j
    rw [show 2 ^ 32 - (r + 1) = 4294967295 - r by omega] at this
    rw [this]; simp [hj]
  have h2 : (4294967295 - r).testBit j = decide ((4294967295 - r) / 2 ^ j % 2 = 1) := Nat.testBit_eq_decide_div_mod_eq
  have h3 : (4294967295 - r) / 2 ^ (j + 1) = (4294967295 - r) / 2 ^ j / 2 := by rw [Nat.div_div_eq_div_mul, ← Nat.pow_succ]
  rw [h3]
  rw [e] at h2
  cases hb : r.testBit j
  · rw [hb] at h2
    have : (4294967295 - r) / 2 ^ j % 2 = 1 := by simpa using h2.symm
    simp; omega
  · rw [hb] at h2
    have : ¬ (4294967295 - r) / 2 ^ j % 2 = 1 := by simpa using h2.symm
    simp; omega
end Go.Proofs.Ytjaehhjehedjoaa
