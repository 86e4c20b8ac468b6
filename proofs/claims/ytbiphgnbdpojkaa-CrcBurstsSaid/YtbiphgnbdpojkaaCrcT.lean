/- What was sealed is opened; whether bytes are a text and its sum is whether sealing gives them again. Condition: at most a million bytes. -/
import Derived.Test.YtbiphgnbdpojkaaCrcS
namespace Go.Proofs.Ytbiphgnbdpojkaa
open Go.ChangeShapes Go.WideShapes Go.ChangeAt Go.RowKit
set_option linter.unusedVariables false

theorem num_putL4 (n : Nat) (hn : n < 4294967296) : num (putL n 4) = n := by
  have e : putL n 4 = [byteAt n 0, byteAt n 1, byteAt n 2, byteAt n 3] := rfl
  rw [e]
  simp only [num, byteAt, UInt8.toNat_ofNat']
  omega
theorem num_inj (a b : List UInt8) (hl : a.length = b.length) (h : num a = num b) : a = b := by
  induction a generalizing b with
  | nil => cases b with
    | nil => rfl
    | cons y b => simp at hl
  | cons x a ih => cases b with
    | nil => simp at hl
    | cons y b =>
      have hx := x.toNat_lt
      have hy := y.toNat_lt
      simp only [num] at h
      have h1 : x.toNat = y.toNat := by omega
      have h2 : num a = num b := by omega
      rw [UInt8.toNat_inj.1 h1, ih b (by simpa using hl) h2]
theorem sealB_list (s : ByteArray) : (sealB s).data.toList = s.data.toList ++ putL (sumL s.data.toList) 4 := by
  unfold sealB; rw [ByteArray.data_append]; simp
theorem sealB_size (s : ByteArray) : (sealB s).size = s.size + 4 := by
  unfold sealB; rw [ByteArray.size_append]; congr 1
theorem isSealed_seal (s : ByteArray) : isSealed (sealB s) s.size := by
  unfold isSealed
  have hl : s.data.toList.length = s.size := rfl
  rw [sealB_list, ← hl, List.drop_left, List.take_left]
  have : (putL (sumL s.data.toList) 4).take 4 = putL (sumL s.data.toList) 4 := by rw [List.take_of_length_le]; simp [putL]
  rw [this, num_putL4 _ (sumL_lt _)]
theorem ba_ext {a b : ByteArray} (h : a.data.toList = b.data.toList) : a = b := ByteArray.ext (Array.toList_inj.1 h)
theorem extract_seal (s : ByteArray) : (sealB s).extract 0 s.size = s := by
  apply ba_ext
  have hl : s.data.toList.length = s.size := rfl
  rw [extract_take, sealB_list, ← hl, List.take_left]
/-- bytes are sealed just if sealing gives them again -/
theorem sealed_again (s : ByteArray) (n : Nat) (hs : s.size = n + 4) : isSealed s n ↔ sealB (s.extract 0 n) = s := by
  have hl : s.data.toList.length = n + 4 := hs
  constructor
  · intro h
    apply ba_ext
    rw [sealB_list, extract_take]
    have h4 : putL (sumL (s.data.toList.take n)) 4 = s.data.toList.drop n := by
      apply num_inj
      · simp [putL, hl]
      · rw [num_putL4 _ (sumL_lt _)]
        unfold isSealed at h
        rw [List.take_of_length_le (by rw [List.length_drop]; omega)] at h
        exact h.symm
    rw [h4, List.take_append_drop]
  · intro h
    have h2 := isSealed_seal (s.extract 0 n)
    rw [h, extract_size s n (by omega)] at h2
    exact h2

theorem open_seal (s : ByteArray) (w : World) (hs : s.size ≤ 900000) :
    Calls Try.prog 10 #[.string (sealB s)] w fun e w' => e = .returned (.tuple #[.string s, .bool true]) ∧ Below w.heap.size w w' := by
  have h := open_yes (sealB s) s.size w (sealB_size s) (by omega) (isSealed_seal s)
  rw [extract_seal] at h
  exact h
end Go.Proofs.Ytbiphgnbdpojkaa
