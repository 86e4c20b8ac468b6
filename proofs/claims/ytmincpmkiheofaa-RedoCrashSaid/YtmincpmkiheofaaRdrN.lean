
/- Plain mathematics of what stands in bytes, as the reference reads it. It speaks of no function. -/
import Derived.Test.YtmincpmkiheofaaRdrM
namespace Go.Proofs.Ytmincpmkiheofaa
open Go.ChangeShapes Go.WideShapes Go.ChangeAt Go.RowKit
set_option linter.unusedVariables false
set_option linter.unusedSimpArgs false

/-- the sector p of bytes -/
def fA (all : ByteArray) (p : Nat) : ByteArray := all.extract (64 * p) (64 * p + 64)
theorem fA_size (all : ByteArray) (p : Nat) (h : 64 * p + 64 ≤ all.size) : (fA all p).size = 64 := by unfold fA; rw [ByteArray.size_extract]; omega
theorem ext_ext (a : ByteArray) (lo hi x y : Nat) (h1 : lo + y ≤ hi) (h2 : hi ≤ a.size) (h3 : x ≤ y) : (a.extract lo hi).extract x y = a.extract (lo + x) (lo + y) := by
  have z1 : (a.extract lo hi).size = hi - lo := by rw [ByteArray.size_extract]; omega
  refine bN_ext _ _ (by simp only [ByteArray.size_extract]; omega) fun i hi' => ?_
  rw [ByteArray.size_extract] at hi'
  rw [bN_extract _ x y i (by omega) (by omega), bN_extract a lo hi (x + i) (by omega) (by omega), bN_extract a (lo + x) (lo + y) i (by omega) (by omega)]
  exact congrArg (bN a) (by omega)
theorem nin_nine (all : ByteArray) (p : Nat) (h : 64 * p + 576 ≤ all.size) : nin (all.extract (64 * p) (64 * p + 576)) = nine (fA all) p := by
  unfold nin nine
  apply List.map_congr_left
  intro i hi
  have := List.mem_range.1 hi
  rw [ext_ext all _ _ _ _ (by omega) h (by omega)]
  unfold fA
  rw [show 64 * p + 64 * i = 64 * (p + i) by omega, show 64 * p + (64 * i + 64) = 64 * (p + i) + 64 by omega]
/-- how many pages a mark tells, whether they fit or not -/
def cnt0 (x : ByteArray) (seq : Nat) : Nat := if 1 ≤ getN x 8 2 ∧ getN x 8 2 ≤ 64 ∧ x = markB seq (getN x 8 2) then getN x 8 2 else 0
theorem cnt0_le (x : ByteArray) (seq : Nat) : cnt0 x seq ≤ 64 := by unfold cnt0; split <;> omega
theorem cnt_cnt0 (x : ByteArray) (seq left : Nat) : cnt x seq left = if 1 + 9 * cnt0 x seq ≤ left then cnt0 x seq else 0 := by
  unfold cnt cnt0
  by_cases c : 1 ≤ getN x 8 2 ∧ getN x 8 2 ≤ 64 ∧ x = markB seq (getN x 8 2)
  · rw [if_pos c]
    by_cases d : 1 + 9 * getN x 8 2 ≤ left
    · rw [if_pos d, if_pos ⟨c.1, c.2.1, d, c.2.2⟩]
    · rw [if_neg d, if_neg (fun h => d h.2.2.1)]
  · rw [if_neg c, if_neg (fun h => c ⟨h.1, h.2.1, h.2.2.2⟩)]
    split <;> rfl
theorem cnt0_iff (x : ByteArray) (seq k : Nat) (h1 : 1 ≤ k) (h2 : k ≤ 64) : x = markB seq k ↔ cnt0 x seq = k := by
  constructor
  · rintro rfl
    unfold cnt0
    rw [markB_count seq k (by omega), if_pos ⟨h1, h2, rfl⟩]
  · intro h
    unfold cnt0 at h
    split at h
    · rename_i c; rw [← h]; exact c.2.2
    · omega
end Go.Proofs.Ytmincpmkiheofaa
