/- The contracts of crc.Seal and crc.Open. No condition but that the text is no longer than a string may be here. -/
import Derived.Test.YtbiphgnbdpojkaaCrcA
import Derived.Test.YtbiphgnbdpojkaaShelf
import Derived.Test.YtbiphgnbdpojkaaWordB
import Derived.Test.YtbiphgnbdpojkaaWordC
namespace Go.Proofs.Ytbiphgnbdpojkaa
open Go.ChangeShapes Go.WideShapes Go.ChangeAt Go.RowKit
set_option linter.unusedVariables false

/-- the text and its sum -/
def sealB (s : ByteArray) : ByteArray := s ++ ⟨(putL (sumL s.data.toList) 4).toArray⟩

theorem strs_one (s : ByteArray) (w : World) : Strs (w.alloc (.cells #[.string s] 9)) (some ⟨w.heap.size, 0, none⟩) [s] :=
  Or.inr ⟨w.heap.size, 0, rfl, fun i h => by
    have hi : i = 0 := by simpa using h
    subst hi
    rw [World.cell?_alloc_mark]; rfl⟩
theorem sum_one (s : ByteArray) (w : World) (hs : s.size ≤ 1000000) :
    Calls Try.prog 11 #[.slice (some ⟨w.heap.size, 0, none⟩) 1 1] (w.alloc (.cells #[.string s] 9)) fun e w' => e = .returned (.int .u32 (sumL s.data.toList : Nat)) ∧ w.alloc (.cells #[.string s] 9) = w' := by
  have h := sum_any (some ⟨w.heap.size, 0, none⟩) 1 1 [s] (w.alloc (.cells #[.string s] 9)) rfl (by omega) (fun x hx => by simp at hx; subst hx; omega) (strs_one s w)
  have e : cat [s] = s.data.toList := by simp [cat]
  rw [e] at h
  exact h
theorem put4 (n : Nat) (hn : n < 4294967296) : ∃ T : ByteArray, T.size = 4 ∧ T = ⟨(putL n 4).toArray⟩ ∧ ∀ w : World, Calls Try.prog 14 #[.int .u64 n, .int .i64 4] w fun e w' => e = .returned (.string T) ∧ w' = w.alloc (.cells (putCells n 4) 42) :=
  ⟨⟨(putL n 4).toArray⟩, by show (putL n 4).toArray.size = 4; simp [putL], rfl, fun w => put_yes n 4 w (by omega) (by omega)⟩

theorem seal_any (s : ByteArray) (w : World) (hs : s.size ≤ 1000000) :
    Calls Try.prog 9 #[.string s] w fun e w' => e = .returned (.string (sealB s)) ∧ Below w.heap.size w w' := by
  have hlt := sumL_lt s.data.toList
  obtain ⟨T, hT, hTe, FP⟩ := put4 _ hlt
  have HE := Lib.hid (show s ++ T = sealB s by rw [hTe]; rfl)
  have hT4 : T.size ≤ 4 := by omega
  clear hT hTe
  have HS := Lib.hid (sum_one s w hs)
  generalize sumL s.data.toList = n at *
  go_enter Try.func9, Try.ntmps9
  go_wp2_with (first
    | (go_at_call 11; refine HS.out.mono ?_; rintro e w' ⟨rfl, rfl⟩)
    | (go_at_call 14; refine (FP _).mono ?_; rintro e w' ⟨rfl, rfl⟩))
  go_ret
  exact ⟨rets_eq (by rw [HE.out]), ((Below.refl _ _).alloc (Nat.le_refl _) _).alloc (by simp) _⟩

theorem clone_any (s : ByteArray) (w : World) (hs : s.size ≤ 1000000) :
    Calls Try.prog 16 #[.string s] w fun e w' => e = .returned (.string s) ∧ Below w.heap.size w w' := by
  go_enter Try.func16, Try.ntmps16
  go_wp2_with (go_at_call 19; refine (Try.stringslite_Clone s w (by omega)).mono ?_; rintro e w' ⟨rfl, hb⟩)
  go_ret
  exact ⟨rfl, hb⟩

theorem getN_num (s : ByteArray) (p k : Nat) (h : p + k ≤ s.size) : getN s p k = num ((s.data.toList.drop p).take k) := by
  induction k with
  | zero => simp [getN, num]
  | succ k ih =>
    unfold getN
    have hk : k < (s.data.toList.drop p).length := by
      have : s.data.toList.length = s.size := rfl
      rw [List.length_drop]; omega
    rw [ih (by omega), List.take_succ_eq_append_getElem hk, num_append, bN_of s (p + k) (by omega)]
    have e : (s.data.toList.drop p)[k] = s[p + k] := by rw [List.getElem_drop]; rfl
    have hl : ((s.data.toList.drop p).take k).length = k := by rw [List.length_take]; omega
    rw [e, hl, Nat.pow_mul, Nat.mul_comm]
    simp [num]

/-- a text and its sum -/
def isSealed (s : ByteArray) (n : Nat) : Prop := num ((s.data.toList.drop n).take 4) = sumL (s.data.toList.take n)

theorem open_short (s : ByteArray) (w : World) (hs : s.size < 4) :
    Calls Try.prog 10 #[.string s] w fun e w' => e = .returned (.tuple #[.string ⟨#[]⟩, .bool false]) ∧ Below w.heap.size w w' := by
  go_enter Try.func10, Try.ntmps10
  go_wp2_with (go_at_call 15; refine (get_no s ((s.size : Int) - 4) 4 _ (by omega) (by omega) (by omega) (by omega) (by omega) (by omega)).mono ?_; rintro e w' ⟨rfl, rfl⟩)
  go_ret2
  exact ⟨rfl, Below.refl _ _⟩

theorem extract_take (s : ByteArray) (n : Nat) : (s.extract 0 n).data.toList = s.data.toList.take n := by
  rw [ByteArray.data_extract, Array.toList_extract]; simp
theorem extract_size (s : ByteArray) (n : Nat) (h : n ≤ s.size) : (s.extract 0 n).size = n := by
  rw [ByteArray.size_extract]; omega

theorem open_yes (s : ByteArray) (n : Nat) (w : World) (hs : s.size = n + 4) (hn : n ≤ 999996) (hy : isSealed s n) :
    Calls Try.prog 10 #[.string s] w fun e w' => e = .returned (.tuple #[.string (s.extract 0 n), .bool true]) ∧ Below w.heap.size w w' := by
  have hs4 : (s.size : Int) - 4 = n := by omega
  have hlt := sumL_lt (s.data.toList.take n)
  have hg := get_yes s n 4 w (by omega) (by omega) (by omega)
  have hz := extract_size s n (by omega)
  have hm := sum_one (s.extract 0 n) w (by omega)
  rw [getN_num s n 4 (by omega), show num ((s.data.toList.drop n).take 4) = sumL (s.data.toList.take n) from hy] at hg
  rw [extract_take] at hm
  have HG := Lib.hid hg
  have HM := Lib.hid hm
  have HC := Lib.hid (fun w => clone_any (s.extract 0 n) w (by omega))
  have hns : (n : Int) ≤ s.size := by omega
  clear hs hg hm hz hy
  generalize sumL (s.data.toList.take n) = m at *
  go_enter Try.func10, Try.ntmps10
  go_wp2_with (first
    | (go_at_call 15; refine HG.out.mono ?_; rintro e w' ⟨rfl, rfl⟩)
    | (go_at_call 11; refine HM.out.mono ?_; rintro e w' ⟨rfl, rfl⟩)
    | (go_at_call 16; refine (HC.out _).mono ?_; rintro e w' ⟨rfl, hb⟩))
  go_ret2
  exact ⟨rfl, ((Below.refl _ _).alloc (Nat.le_refl _) _).trans (hb.mono (by simp))⟩

theorem open_no (s : ByteArray) (n : Nat) (w : World) (hs : s.size = n + 4) (hn : n ≤ 999996) (hy : ¬ isSealed s n) :
    Calls Try.prog 10 #[.string s] w fun e w' => e = .returned (.tuple #[.string ⟨#[]⟩, .bool false]) ∧ Below w.heap.size w w' := by
  have hs4 : (s.size : Int) - 4 = n := by omega
  have hlt := sumL_lt (s.data.toList.take n)
  have hg := get_yes s n 4 w (by omega) (by omega) (by omega)
  have hz := extract_size s n (by omega)
  have hm := sum_one (s.extract 0 n) w (by omega)
  have hne : ((num ((s.data.toList.drop n).take 4) : Int) != (sumL (s.data.toList.take n) : Nat)) = true := by
    rw [bne_iff_ne]; intro h; exact hy (by unfold isSealed; omega)
  rw [getN_num s n 4 (by omega)] at hg
  rw [extract_take] at hm
  have HG := Lib.hid hg
  have HM := Lib.hid hm
  have hns : (n : Int) ≤ s.size := by omega
  clear hs hg hm hz hy
  generalize sumL (s.data.toList.take n) = m at *
  generalize num ((s.data.toList.drop n).take 4) = g at *
  go_enter Try.func10, Try.ntmps10
  go_wp2_with (first
    | (go_at_call 15; refine HG.out.mono ?_; rintro e w' ⟨rfl, rfl⟩)
    | (go_at_call 11; refine HM.out.mono ?_; rintro e w' ⟨rfl, rfl⟩))
  go_ret2
  exact ⟨rfl, (Below.refl _ _).alloc (Nat.le_refl _) _⟩
end Go.Proofs.Ytbiphgnbdpojkaa
