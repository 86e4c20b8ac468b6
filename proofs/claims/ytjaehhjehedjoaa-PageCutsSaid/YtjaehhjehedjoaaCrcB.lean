
/- The contracts of crc.Seal and crc.Open. No condition but that the text is no longer than a string may be here. -/
import Derived.Test.YtjaehhjehedjoaaCrcA
import Derived.Test.YtjaehhjehedjoaaShelf
import Derived.Test.YtjaehhjehedjoaaWordB
import Derived.Test.YtjaehhjehedjoaaWordC
namespace Go.Proofs.Ytjaehhjehedjoaa
open Go.ChangeShapes Go.WideShapes Go.ChangeAt Go.RowKit
set_option linter.unusedVariables false

/-- the text and its sum -/
def sealB (s : ByteArray) : ByteArray := s ++ ⟨(putL (sumL s.data.toList) 4).toArray⟩

theorem strs_one (s : ByteArray) (w : World) : Strs (w.alloc (.cells #[.string s] 9)) (some ⟨w.heap.size, 0, none⟩) [s] :=
  Or.inr ⟨w.heap.size, 0, rfl, fun i h => by
    have hi : i = 0 := by simpa using h
    subst hi
    rw [World.cell?_alloc_mark]; rfl⟩
theorem sum_one (s : ByteArray) (w : World) (hs : s.size ≤ 1000000) :
    Calls Try.prog 18 #[.slice (some ⟨w.heap.size, 0, none⟩) 1 1] (w.alloc (.cells #[.string s] 9)) fun e w' => e = .returned (.int .u32 (sumL s.data.toList : Nat)) ∧ w.alloc (.cells #[.string s] 9) = w' := by
  have h := sum_any (some ⟨w.heap.size, 0, none⟩) 1 1 [s] (w.alloc (.cells #[.string s] 9)) rfl (by omega) (fun x hx => by simp at hx; subst hx; omega) (strs_one s w)
  have e : cat [s] = s.data.toList := by simp [cat]
  rw [e] at h
  exact h
theorem put4 (n : Nat) (hn : n < 4294967296) : ∃ T : ByteArray, T.size = 4 ∧ T = ⟨(putL n 4).toArray⟩ ∧ ∀ w : World, Calls Try.prog 16 #[.int .u64 n, .int .i64 4] w fun e w' => e = .returned (.string T) ∧ w' = w.alloc (.cells (putCells n 4) 56) :=
  ⟨⟨(putL n 4).toArray⟩, by show (putL n 4).toArray.size = 4; simp [putL], rfl, fun w => put_yes n 4 w (by omega) (by omega)⟩

theorem clone_any (s : ByteArray) (w : World) (hs : s.size ≤ 1000000) :
    Calls Try.prog 20 #[.string s] w fun e w' => e = .returned (.string s) ∧ Below w.heap.size w w' := by
  go_enter Try.func20, Try.ntmps20
  go_wp2_with (go_at_call 34; refine (Try.stringslite_Clone s w (by omega)).mono ?_; rintro e w' ⟨rfl, hb⟩)
  go_ret
  exact ⟨rfl, hb⟩

theorem getN_num (s : ByteArray) (p k : Nat) (h : p + k ≤ s.size) : getN s p k = num ((s.data.toList.drop p).take k) := by
  induction k with
  | zero => simp [getN, num]
  | succ k ih =>
    unfold getN
    have hk : k < (s.data.toList.drop p).length := by
      have : s.data.toList.length = s.size := rfl
      rw [List.length_drop]; omega
    rw [ih (by omega), List.take_succ_eq_append_getElem hk, num_append, bN_of s (p + k) (by omega)]
    have e : (s.data.toList.drop p)[k] = s[p + k] := by rw [List.getElem_drop]; rfl
    have hl : ((s.data.toList.drop p).take k).length = k := by rw [List.length_take]; omega
    rw [e, hl, Nat.pow_mul, Nat.mul_comm]
    simp [num]

/-- a text and its sum -/
def isSealed (s : ByteArray) (n : Nat) : Prop := num ((s.data.toList.drop n).take 4) = sumL (s.data.toList.take n)

theorem extract_take (s : ByteArray) (n : Nat) : (s.extract 0 n).data.toList = s.data.toList.take n := by
  rw [ByteArray.data_extract, Array.toList_extract]; simp
theorem extract_size (s : ByteArray) (n : Nat) (h : n ≤ s.size) : (s.extract 0 n).size = n := by
  rw [ByteArray.size_extract]; omega

end Go.Proofs.Ytjaehhjehedjoaa
