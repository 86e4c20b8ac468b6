
/- Plain mathematics of pages: the bytes of a page, what stands in any bytes, turned bits. It speaks of no function. No condition but those that each theorem names. -/
import Derived.Test.YtjaehhjehedjoaaMarM
import Derived.Test.YtjaehhjehedjoaaMathC
namespace Go.Proofs.Ytjaehhjehedjoaa
open Go.ChangeShapes Go.WideShapes Go.ChangeAt Go.RowKit
set_option linter.unusedVariables false

theorem ba_ext' {a b : ByteArray} (h : a.data.toList = b.data.toList) : a = b := ByteArray.ext (Array.toList_inj.1 h)
theorem num_inj' (a b : List UInt8) (hl : a.length = b.length) (h : num a = num b) : a = b := by
  induction a generalizing b with
  | nil => cases b with
    | nil => rfl
    | cons y b => simp at hl
  | cons x a ih => cases b with
    | nil => simp at hl
    | cons y b =>
      have hx := x.toNat_lt
      have hy := y.toNat_lt
      simp only [num] at h
      have h1 : x.toNat = y.toNat := by omega
      have h2 : num a = num b := by omega
      rw [UInt8.toNat_inj.1 h1, ih b (by simpa using hl) h2]
theorem num_put4 (n : Nat) (hn : n < 4294967296) : num (putL n 4) = n := by
  have e : putL n 4 = [byteAt n 0, byteAt n 1, byteAt n 2, byteAt n 3] := rfl
  rw [e]
  simp only [num, byteAt, UInt8.toNat_ofNat']
  omega
theorem getN_list (s : ByteArray) (p k : Nat) (h : p + k ≤ s.size) : getN s p k = num ((s.data.toList.drop p).take k) := by
  induction k with
  | zero => simp [getN, num]
  | succ k ih =>
    unfold getN
    have hk : k < (s.data.toList.drop p).length := by
      have : s.data.toList.length = s.size := rfl
      rw [List.length_drop]; omega
    rw [ih (by omega), List.take_succ_eq_append_getElem hk, num_append, bN_of s (p + k) (by omega)]
    have e : (s.data.toList.drop p)[k] = s[p + k] := by rw [List.getElem_drop]; rfl
    have hl : ((s.data.toList.drop p).take k).length = k := by rw [List.length_take]; omega
    rw [e, hl, Nat.pow_mul, Nat.mul_comm]
    simp [num]
theorem extract_list (s : ByteArray) (a b : Nat) : (s.extract a b).data.toList = (s.data.toList.drop a).take (b - a) := by
  rw [ByteArray.data_extract, Array.toList_extract]
theorem len_list (s : ByteArray) : s.data.toList.length = s.size := rfl
theorem app_list (a b : ByteArray) : (a ++ b).data.toList = a.data.toList ++ b.data.toList := by rw [ByteArray.data_append]; simp

/-- the sum of bytes, as bytes -/
def smB (s : ByteArray) : ByteArray := ⟨(putL (sumL s.data.toList) 4).toArray⟩
/-- what stands ahead of a page's room, behind the sum -/
def hdB (k n : Nat) : ByteArray := ⟨#[UInt8.ofNat k]⟩ ++ ⟨(putL n 4).toArray⟩ ++ zB 7
/-- what is summed -/
def bodB (k n : Nat) (t : ByteArray) : ByteArray := hdB k n ++ t ++ zB (496 - t.size)
/-- a page's bytes -/
def pgB (k n : Nat) (t : ByteArray) : ByteArray := smB (bodB k n t) ++ bodB k n t
theorem smB_size (s : ByteArray) : (smB s).size = 4 := by show (putL (sumL s.data.toList) 4).toArray.size = 4; simp [putL]
theorem hdB_size (k n : Nat) : (hdB k n).size = 12 := by
  unfold hdB; simp only [ByteArray.size_append, zB_size]
  show 1 + (putL n 4).toArray.size + 7 = 12; simp [putL]
theorem bodB_size (k n : Nat) (t : ByteArray) (h : t.size ≤ 496) : (bodB k n t).size = 508 := by
  unfold bodB; simp only [ByteArray.size_append, hdB_size, zB_size]; omega
theorem pgB_size (k n : Nat) (t : ByteArray) (h : t.size ≤ 496) : (pgB k n t).size = 512 := by
  unfold pgB; simp only [ByteArray.size_append, smB_size, bodB_size k n t h]

/-- the error that bytes have as a page -/
def hE (s : ByteArray) : Nat :=
  if s.size ≠ 512 then 2 else if getN s 0 4 ≠ sumL (s.extract 4 s.size).data.toList then 12
  else if bN s 4 = 0 ∨ 2147483647 < getN s 5 4 ∨ s.extract 9 16 ≠ zB 7 then 2 else 0
def hK (s : ByteArray) : Nat := if hE s = 0 then bN s 4 else 0
def hN (s : ByteArray) : Nat := if hE s = 0 then getN s 5 4 else 0
def hT (s : ByteArray) : ByteArray := if hE s = 0 then s.extract 16 s.size else ⟨#[]⟩
theorem hE_le (s : ByteArray) : hE s ≤ 12 := by unfold hE; split <;> (try split) <;> (try split) <;> omega
theorem hK_le (s : ByteArray) : hK s ≤ 255 := by unfold hK; have := bN_lt s 4; split <;> omega
theorem hN_le (s : ByteArray) : hN s ≤ 2147483647 := by
  unfold hN
  split
  · rename_i h
    unfold hE at h
    split at h
    · omega
    · split at h
      · omega
      · split at h
        · omega
        · rename_i h3
          have := not_or.1 h3
          have := not_or.1 this.2
          omega
  · omega
theorem hE_size (s : ByteArray) (h : hE s = 0) : s.size = 512 := by
  unfold hE at h
  split at h
  · omega
  · rename_i h1; exact Decidable.of_not_not h1
theorem hT_size (s : ByteArray) (h : hE s = 0) : (hT s).size = 496 := by
  have := hE_size s h
  unfold hT; rw [if_pos h, ByteArray.size_extract]; omega
theorem hT_le (s : ByteArray) : (hT s).size ≤ 496 := by
  by_cases h : hE s = 0
  · have := hT_size s h; omega
  · unfold hT; rw [if_neg h]; decide

theorem pgB_list (k n : Nat) (t : ByteArray) : (pgB k n t).data.toList = putL (sumL (bodB k n t).data.toList) 4 ++ ([UInt8.ofNat k] ++ (putL n 4 ++ (List.replicate 7 0 ++ (t.data.toList ++ List.replicate (496 - t.size) 0)))) := by
  unfold pgB bodB hdB smB
  simp only [app_list]
  simp [zB]
theorem bodB_list (k n : Nat) (t : ByteArray) : (bodB k n t).data.toList = [UInt8.ofNat k] ++ (putL n 4 ++ (List.replicate 7 0 ++ (t.data.toList ++ List.replicate (496 - t.size) 0))) := by
  unfold bodB hdB
  simp only [app_list]
  simp [zB]
theorem drop_of {α : Type} {a b : List α} {p : Nat} (h : a.length = p) : (a ++ b).drop p = b := by subst h; simp
theorem take_of {α : Type} {a b : List α} {p : Nat} (h : a.length = p) : (a ++ b).take p = a := by subst h; simp
theorem putL_len (n k : Nat) : (putL n k).length = k := by simp [putL]
theorem pgB_sum (k n : Nat) (t : ByteArray) (h : t.size ≤ 496) : getN (pgB k n t) 0 4 = sumL ((pgB k n t).extract 4 (pgB k n t).size).data.toList := by
  have hz := pgB_size k n t h
  have e : ((pgB k n t).data.toList.drop 4) = (bodB k n t).data.toList := by
    rw [pgB_list, bodB_list, drop_of (putL_len _ _)]
  have e2 : (pgB k n t).data.toList.take 4 = putL (sumL (bodB k n t).data.toList) 4 := by rw [pgB_list, take_of (putL_len _ _)]
  have e3 : ((pgB k n t).extract 4 (pgB k n t).size).data.toList = (bodB k n t).data.toList := by
    rw [extract_list, e, List.take_of_length_le]
    rw [len_list, bodB_size k n t h]; omega
  rw [getN_list _ _ _ (by omega), List.drop_zero, e2, e3, num_put4 _ (sumL_lt _)]
theorem pgB_kind (k n : Nat) (t : ByteArray) (hk : k ≤ 255) (h : t.size ≤ 496) : bN (pgB k n t) 4 = k := by
  have hz := pgB_size k n t h
  have h1 : getN (pgB k n t) 4 1 = bN (pgB k n t) 4 := by simp [getN]
  rw [← h1, getN_list _ _ _ (by omega), pgB_list, drop_of (putL_len _ _)]
  simp [num]; omega
theorem pgB_no (k n : Nat) (t : ByteArray) (hn : n ≤ 2147483647) (h : t.size ≤ 496) : getN (pgB k n t) 5 4 = n := by
  have hz := pgB_size k n t h
  rw [getN_list _ _ _ (by omega), pgB_list, show (5 : Nat) = 4 + 1 from rfl, ← List.drop_drop, drop_of (putL_len _ _), drop_of (by rfl), take_of (putL_len _ _), num_put4 _ (by omega)]
theorem pgB_gap (k n : Nat) (t : ByteArray) (h : t.size ≤ 496) : (pgB k n t).extract 9 16 = zB 7 := by
  apply ba_ext'
  rw [extract_list, pgB_list, show (9 : Nat) = 4 + (1 + 4) from rfl, ← List.drop_drop, ← List.drop_drop, drop_of (putL_len _ _), drop_of (by rfl), drop_of (putL_len _ _)]
  exact take_of (by simp)
theorem pgB_E (k n : Nat) (t : ByteArray) (hk0 : 1 ≤ k) (hk : k ≤ 255) (hn : n ≤ 2147483647) (h : t.size ≤ 496) : hE (pgB k n t) = 0 := by
  have h1 := pgB_size k n t h
  have h2 := pgB_sum k n t h
  have h3 := pgB_kind k n t hk h
  have h4 := pgB_no k n t hn h
  have h5 := pgB_gap k n t h
  unfold hE
  rw [if_neg (by omega), if_neg (by intro hh; exact hh h2), if_neg]
  rintro (h6 | h6 | h6)
  · omega
  · omega
  · exact h6 h5
theorem pgB_K (k n : Nat) (t : ByteArray) (hk0 : 1 ≤ k) (hk : k ≤ 255) (hn : n ≤ 2147483647) (h : t.size ≤ 496) : hK (pgB k n t) = k := by
  unfold hK; rw [if_pos (pgB_E k n t hk0 hk hn h), pgB_kind k n t hk h]
theorem pgB_N (k n : Nat) (t : ByteArray) (hk0 : 1 ≤ k) (hk : k ≤ 255) (hn : n ≤ 2147483647) (h : t.size ≤ 496) : hN (pgB k n t) = n := by
  unfold hN; rw [if_pos (pgB_E k n t hk0 hk hn h), pgB_no k n t hn h]
theorem pgB_T (k n : Nat) (t : ByteArray) (hk0 : 1 ≤ k) (hk : k ≤ 255) (hn : n ≤ 2147483647) (h : t.size ≤ 496) : hT (pgB k n t) = t ++ zB (496 - t.size) := by
  have hz := pgB_size k n t h
  unfold hT; rw [if_pos (pgB_E k n t hk0 hk hn h)]
  apply ba_ext'
  rw [extract_list, pgB_list, show (16 : Nat) = 4 + (1 + (4 + 7)) from rfl, ← List.drop_drop, ← List.drop_drop, ← List.drop_drop, drop_of (putL_len _ _), drop_of (by rfl), drop_of (putL_len _ _), drop_of (by simp), app_list]
  rw [List.take_of_length_le (by simp only [List.length_append, List.length_replicate, len_list]; omega)]
  rfl

/-- bits turned among 32 in a row, all within the first 32, or all behind -/
theorem page_turned (B L : List UInt8) (F x : Nat) (hB : B.length = 512) (hL : L.length = 512) (hF : F < 4096) (hx : x < 4294967296) (h0 : x ≠ 0) (hs : F < 32 → 2 ^ F * x < 4294967296) (hn : num L = num B ^^^ (2 ^ F * x)) (hg : num (B.take 4) = sumL (B.drop 4)) : num (L.take 4) ≠ sumL (L.drop 4) := by
  have sB : num B = num (B.take 4) + 2 ^ 32 * num (B.drop 4) := by
    conv => lhs; rw [← List.take_append_drop 4 B, num_append]
    rw [show (B.take 4).length = 4 by rw [List.length_take]; omega]
  have sL : num L = num (L.take 4) + 2 ^ 32 * num (L.drop 4) := by
    conv => lhs; rw [← List.take_append_drop 4 L, num_append]
    rw [show (L.take 4).length = 4 by rw [List.length_take]; omega]
  have lB : num (B.take 4) < 2 ^ 32 := by have := num_lt (B.take 4); rwa [show (B.take 4).length = 4 by rw [List.length_take]; omega] at this
  have lL : num (L.take 4) < 2 ^ 32 := by have := num_lt (L.take 4); rwa [show (L.take 4).length = 4 by rw [List.length_take]; omega] at this
  have dB : (B.drop 4).length = 508 := by rw [List.length_drop]; omega
  have dL : (L.drop 4).length = 508 := by rw [List.length_drop]; omega
  by_cases hf : F < 32
  · have hy := hs hf
    have hy0 : 2 ^ F * x ≠ 0 := Nat.mul_ne_zero (by have := Nat.two_pow_pos F; omega) h0
    generalize 2 ^ F * x = y at *
    have h1 : num L = (num (B.take 4) ^^^ y) + 2 ^ 32 * num (B.drop 4) := by
      have hlt : num (B.take 4) ^^^ y < 2 ^ 32 := Nat.xor_lt_two_pow lB hy
      rw [hn, sB, add_xor _ _ _ lB, add_xor _ _ _ hlt, Nat.xor_assoc, Nat.xor_assoc, Nat.xor_comm y]
    have hlt : num (B.take 4) ^^^ y < 2 ^ 32 := Nat.xor_lt_two_pow lB hy
    have e1 : num (L.take 4) = num (B.take 4) ^^^ y := by omega
    have e2 : num (L.drop 4) = num (B.drop 4) := by omega
    have e3 := num_inj' _ _ (by omega) e2
    rw [e1, e3, ← hg]
    intro h
    have : num (B.take 4) ^^^ (num (B.take 4) ^^^ y) = num (B.take 4) ^^^ num (B.take 4) := by rw [h]
    rw [← Nat.xor_assoc, Nat.xor_self, Nat.zero_xor] at this
    exact hy0 this
  · obtain ⟨G, rfl⟩ : ∃ G, F = 32 + G := ⟨F - 32, by omega⟩
    have h1 : num L = num (B.take 4) + 2 ^ 32 * (num (B.drop 4) ^^^ (2 ^ G * x)) := by
      rw [hn, sB, add_xor _ _ _ lB, add_xor _ _ _ lB, Nat.xor_assoc, Nat.pow_add, Nat.mul_assoc]
      congr 1
      have := Nat.shiftLeft_xor_distrib (i := 32) (a := num (B.drop 4)) (b := 2 ^ G * x)
      simp only [Nat.shiftLeft_eq] at this
      rw [Nat.mul_comm, Nat.mul_comm (2 ^ 32) (2 ^ G * x), Nat.mul_comm (2 ^ 32)]
      exact this.symm
    have e1 : num (L.take 4) = num (B.take 4) := by omega
    have e2 : num (L.drop 4) = num (B.drop 4) ^^^ (2 ^ G * x) := by omega
    have h2 := turned (B.drop 4) (L.drop 4) G x (by omega) hx h0 (by omega) e2
    rw [e1, hg]
    have r1 := regL_lt 4294967295 (B.drop 4) (by omega)
    have r2 := regL_lt 4294967295 (L.drop 4) (by omega)
    unfold sumL
    omega
end Go.Proofs.Ytjaehhjehedjoaa
