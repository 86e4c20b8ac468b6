
/- Plain mathematics of marks: bytes that stand at both ends of 64. It speaks of no function. No condition but those that each theorem names. -/
import Derived.Test.YteepggjbgdjchaaDoorWordB
import Derived.Test.YteepggjbgdjchaaDoorWordC
namespace Go.Proofs.YteepggjbgdjchaaDoor
open Go.ChangeShapes Go.WideShapes Go.ChangeAt Go.RowKit
set_option linter.unusedVariables false

/-- the number n in eight bytes -/
def nB (n : Nat) : ByteArray := ⟨(putL n 8).toArray⟩
/-- k noughts -/
def zB (k : Nat) : ByteArray := ⟨(List.replicate k (0 : UInt8)).toArray⟩
/-- the mark of a number and a text -/
def mkB (n : Nat) (t : ByteArray) : ByteArray := nB n ++ t ++ zB (48 - t.size) ++ nB n
theorem nB_size (n : Nat) : (nB n).size = 8 := by show (putL n 8).toArray.size = 8; simp [putL]
theorem zB_size (k : Nat) : (zB k).size = k := by show (List.replicate k (0 : UInt8)).toArray.size = k; simp
theorem mkB_size (n : Nat) (t : ByteArray) (h : t.size ≤ 48) : (mkB n t).size = 64 := by
  unfold mkB; simp only [ByteArray.size_append, nB_size, zB_size]; omega

/-- it is a mark -/
def isM (s : ByteArray) : Bool := decide (s.size = 64 ∧ getN s 0 8 = getN s 56 8)
def mN (s : ByteArray) : Nat := if isM s then getN s 0 8 else 0
def mT (s : ByteArray) : ByteArray := if isM s then s.extract 8 56 else ⟨#[]⟩
theorem mN_le (s : ByteArray) : mN s ≤ 18446744073709551615 := by
  unfold mN; split
  · have := getN_top s 0 8 (by omega); omega
  · omega

theorem getN_bytes (s t : ByteArray) (p q : Nat) : ∀ k, getN s p k = getN t q k ↔ ∀ i, i < k → bN s (p + i) = bN t (q + i) := by
  intro k
  induction k with
  | zero => simp [getN]
  | succ k ih =>
    have h1 := getN_lt s p k
    have h2 := getN_lt t q k
    have hp : 0 < (2 : Nat) ^ (8 * k) := Nat.pow_pos (by omega)
    unfold getN
    constructor
    · intro h i hi
      have hm : getN s p k = getN t q k := by
        have := congrArg (· % 2 ^ (8 * k)) h
        simpa [Nat.add_mul_mod_self_right, Nat.mod_eq_of_lt h1, Nat.mod_eq_of_lt h2] using this
      have hd : bN s (p + k) = bN t (q + k) := by
        have h3 : bN s (p + k) * 2 ^ (8 * k) = bN t (q + k) * 2 ^ (8 * k) := by omega
        exact Nat.eq_of_mul_eq_mul_right hp h3
      by_cases hik : i = k
      · subst hik; exact hd
      · exact (ih.1 hm) i (by omega)
    · intro h
      rw [h k (by omega), ih.2 (fun i hi => h i (by omega))]

theorem bN_ext (s t : ByteArray) (hs : s.size = t.size) (h : ∀ i, i < s.size → bN s i = bN t i) : s = t := by
  apply ByteArray.ext_getElem hs
  intro i h1 h2
  have := h i h1
  rw [bN_of s i h1, bN_of t i h2] at this
  exact UInt8.toNat_inj.1 this

theorem bN_extract (s : ByteArray) (a b i : Nat) (hb : b ≤ s.size) (hi : a + i < b) : bN (s.extract a b) i = bN s (a + i) := by
  have hz : (s.extract a b).size = b - a := by rw [ByteArray.size_extract]; omega
  rw [bN_of _ i (by omega), bN_of s (a + i) (by omega), ByteArray.getElem_extract]

theorem bN_left (a b : ByteArray) (i : Nat) (hi : i < a.size) : bN (a ++ b) i = bN a i := by
  rw [bN_of _ i (by rw [ByteArray.size_append]; omega), bN_of a i hi, ByteArray.getElem_append_left hi]
theorem bN_right (a b : ByteArray) (i : Nat) (hi : i < b.size) : bN (a ++ b) (a.size + i) = bN b i := by
  rw [bN_of _ _ (by rw [ByteArray.size_append]; omega), bN_of b i hi, ByteArray.getElem_append_right (by omega)]
  congr 2; omega

theorem ends_eq (s : ByteArray) (h : s.size = 64) : s.extract 0 8 = s.extract 56 64 ↔ getN s 0 8 = getN s 56 8 := by
  have z1 : (s.extract 0 8).size = 8 := by rw [ByteArray.size_extract]; omega
  have z2 : (s.extract 56 64).size = 8 := by rw [ByteArray.size_extract]; omega
  rw [getN_bytes]
  constructor
  · intro e i hi
    have h1 := bN_extract s 0 8 i (by omega) (by omega)
    have h2 := bN_extract s 56 64 i (by omega) (by omega)
    rw [← h1, ← h2, e]
  · intro e
    refine bN_ext _ _ (by omega) (fun i hi => ?_)
    rw [bN_extract s 0 8 i (by omega) (by omega), bN_extract s 56 64 i (by omega) (by omega)]
    exact e i (by omega)

theorem getN_extract (s : ByteArray) (p k : Nat) (h : p + k ≤ s.size) : getN (s.extract p (p + k)) 0 k = getN s p k := by
  rw [getN_bytes]
  intro i hi
  rw [bN_extract s p (p + k) (0 + i) (by omega) (by omega), Nat.zero_add]

theorem nB_byte (n i : Nat) (hi : i < 8) : bN (nB n) i = (byteAt n i).toNat := by
  rw [bN_of _ i (by rw [nB_size]; omega)]
  simp [nB, putL, ByteArray.getElem_eq_getElem_data]
theorem nB_get (n : Nat) (hn : n ≤ 18446744073709551615) : getN (nB n) 0 8 = n := by
  have : ∀ j, j ≤ 8 → getN (nB n) 0 j = n % 2 ^ (8 * j) := by
    intro j
    induction j with
    | zero => intro _; simp [getN, Nat.mod_one]
    | succ j ih =>
      intro hj
      unfold getN
      rw [ih (by omega), Nat.zero_add, nB_byte n j (by omega), show 8 * (j + 1) = 8 * j + 8 by omega, Nat.pow_add, Nat.mod_mul]
      unfold byteAt
      rw [UInt8.toNat_ofNat', Nat.mul_comm (_ % 2 ^ 8)]
  rw [this 8 (by omega)]
  omega

theorem mkB_first (n : Nat) (t : ByteArray) (i : Nat) (hi : i < 8) : bN (mkB n t) i = bN (nB n) i := by
  unfold mkB
  have := nB_size n
  rw [bN_left _ _ _ (by simp only [ByteArray.size_append]; omega), bN_left _ _ _ (by simp only [ByteArray.size_append]; omega), bN_left _ _ _ (by omega)]
theorem mkB_last (n : Nat) (t : ByteArray) (ht : t.size ≤ 48) (i : Nat) (hi : i < 8) : bN (mkB n t) (56 + i) = bN (nB n) i := by
  unfold mkB
  have h8 := nB_size n
  have hz : (nB n ++ t ++ zB (48 - t.size)).size = 56 := by simp only [ByteArray.size_append, nB_size, zB_size]; omega
  have := bN_right (nB n ++ t ++ zB (48 - t.size)) (nB n) i (by omega)
  rw [hz] at this
  exact this
theorem mkB_is (n : Nat) (t : ByteArray) (ht : t.size ≤ 48) : isM (mkB n t) = true := by
  unfold isM
  refine decide_eq_true ⟨mkB_size n t ht, ?_⟩
  rw [getN_bytes]
  intro i hi
  rw [Nat.zero_add, mkB_first n t i hi, mkB_last n t ht i hi]
theorem mkB_num (n : Nat) (t : ByteArray) (hn : n ≤ 18446744073709551615) (ht : t.size ≤ 48) : mN (mkB n t) = n := by
  unfold mN
  rw [if_pos (mkB_is n t ht)]
  refine Eq.trans ?_ (nB_get n hn)
  rw [getN_bytes]
  intro i hi
  rw [Nat.zero_add]
  exact mkB_first n t i hi
theorem mkB_text (n : Nat) (t : ByteArray) (ht : t.size ≤ 48) : mT (mkB n t) = t ++ zB (48 - t.size) := by
  unfold mT
  rw [if_pos (mkB_is n t ht)]
  have hz := mkB_size n t ht
  have h8 := nB_size n
  have hzz := zB_size (48 - t.size)
  have z1 : ((mkB n t).extract 8 56).size = 48 := by rw [ByteArray.size_extract]; omega
  have z2 : (t ++ zB (48 - t.size)).size = 48 := by rw [ByteArray.size_append]; omega
  refine bN_ext _ _ (by omega) (fun i hi => ?_)
  rw [bN_extract _ 8 56 i (by omega) (by omega)]
  unfold mkB
  rw [bN_left _ _ _ (by simp only [ByteArray.size_append]; omega), ByteArray.append_assoc, ← h8]
  exact bN_right _ _ i (by omega)
theorem mT_size (s : ByteArray) (h : isM s = true) : (mT s).size = 48 := by
  unfold mT
  rw [if_pos h, ByteArray.size_extract]
  have := (of_decide_eq_true h).1
  omega
theorem mT_le (s : ByteArray) : (mT s).size ≤ 48 := by
  cases h : isM s
  · unfold mT; rw [if_neg (by simp [h])]; decide
  · have := mT_size s h; omega
theorem ext_left (a b : ByteArray) : (a ++ b).extract 0 a.size = a := by
  have z1 : ((a ++ b).extract 0 a.size).size = a.size := by rw [ByteArray.size_extract, ByteArray.size_append]; omega
  refine bN_ext _ _ z1 (fun i hi => ?_)
  rw [bN_extract _ 0 a.size i (by rw [ByteArray.size_append]; omega) (by omega), Nat.zero_add, bN_left _ _ _ (by omega)]

/-- Torn between two marks of unlike numbers it is no mark, or one of the two. -/
theorem torn (m n : Nat) (a b : ByteArray) (k : Nat) (hm : m ≤ 18446744073709551615) (hn : n ≤ 18446744073709551615) (hne : m ≠ n) (ha : a.size ≤ 48) (hb : b.size ≤ 48) (hk : k ≤ 64)
    (h : isM ((mkB m a).extract 0 k ++ (mkB n b).extract k 64) = true) :
    (mkB m a).extract 0 k ++ (mkB n b).extract k 64 = mkB m a ∨ (mkB m a).extract 0 k ++ (mkB n b).extract k 64 = mkB n b := by
  have hs := mkB_size m a ha
  have ht := mkB_size n b hb
  have s1 : ∀ i, i < 8 → bN (mkB m a) (56 + i) = bN (mkB m a) i := fun i hi => by rw [mkB_first m a i hi, mkB_last m a ha i hi]
  have t1 : ∀ i, i < 8 → bN (mkB n b) (56 + i) = bN (mkB n b) i := fun i hi => by rw [mkB_first n b i hi, mkB_last n b hb i hi]
  have hmn : ¬ ∀ i, i < 8 → bN (mkB m a) i = bN (mkB n b) i := fun hh => hne (by
    rw [← nB_get m hm, ← nB_get n hn, getN_bytes]
    intro i hi
    rw [Nat.zero_add, ← mkB_first m a i hi, ← mkB_first n b i hi]
    exact hh i hi)
  generalize mkB m a = s at *
  generalize mkB n b = t at *
  have z1 : (s.extract 0 k).size = k := by rw [ByteArray.size_extract]; omega
  have z2 : (t.extract k 64).size = 64 - k := by rw [ByteArray.size_extract]; omega
  have hu : (s.extract 0 k ++ t.extract k 64).size = 64 := by rw [ByteArray.size_append]; omega
  have lo : ∀ i, i < k → bN (s.extract 0 k ++ t.extract k 64) i = bN s i := fun i hi => by
    rw [bN_left _ _ _ (by omega), bN_extract s 0 k i (by omega) (by omega), Nat.zero_add]
  have hi_ : ∀ i, k ≤ i → i < 64 → bN (s.extract 0 k ++ t.extract k 64) i = bN t i := fun i h1 h2 => by
    have := bN_right (s.extract 0 k) (t.extract k 64) (i - k) (by omega)
    rw [z1, show k + (i - k) = i by omega] at this
    rw [this, bN_extract t k 64 (i - k) (by omega) (by omega), show k + (i - k) = i by omega]
  have he : ∀ i, i < 8 → bN (s.extract 0 k ++ t.extract k 64) i = bN (s.extract 0 k ++ t.extract k 64) (56 + i) := by
    have := (getN_bytes _ _ 0 56 8).1 (of_decide_eq_true h).2
    intro i hi
    have := this i hi
    rwa [Nat.zero_add] at this
  generalize s.extract 0 k ++ t.extract k 64 = u at *
  by_cases c1 : k ≤ 8
  · right
    refine bN_ext _ _ (by omega) (fun i hi => ?_)
    by_cases c : i < k
    · rw [he i (by omega), hi_ (56 + i) (by omega) (by omega), t1 i (by omega)]
    · exact hi_ i (by omega) (by omega)
  · by_cases c2 : k ≤ 56
    · exact absurd (fun i hi => by rw [← lo i (by omega), he i hi, hi_ (56 + i) (by omega) (by omega), t1 i hi]) hmn
    · left
      refine bN_ext _ _ (by omega) (fun i hi => ?_)
      by_cases c : i < k
      · exact lo i c
      · have := he (i - 56) (by omega)
        rw [show 56 + (i - 56) = i by omega] at this
        rw [← this, lo (i - 56) (by omega), ← s1 (i - 56) (by omega), show 56 + (i - 56) = i by omega]
end Go.Proofs.YteepggjbgdjchaaDoor
