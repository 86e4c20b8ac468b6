
/- The contract of word.Put: the lowest bytes, the lowest first, or nothing. No condition but the arguments' own ranges. -/
import Derived.Test.YteepggjbgdjchaaDoorWordI
import Derived.Laws.IdiomStrings
namespace Go.Proofs.YteepggjbgdjchaaDoor
open Go.ChangeShapes Go.WideShapes Go.ChangeAt Go.RowKit
set_option linter.unusedVariables false

/-- byte i of n -/
def byteAt (n i : Nat) : UInt8 := UInt8.ofNat (n / 2 ^ (8 * i))
/-- the lowest k bytes of n, the lowest first -/
def putL (n k : Nat) : List UInt8 := (List.range k).map (byteAt n)
def putCell (n j i : Nat) : Value := if i < j then .int .u8 ((byteAt n i).toNat : Nat) else .int .u8 0
def putCells (n j : Nat) : Array Value := ((List.range 8).map (putCell n j)).toArray

theorem putCells_zero (n : Nat) : putCells n 0 = #[.int .u8 0, .int .u8 0, .int .u8 0, .int .u8 0, .int .u8 0, .int .u8 0, .int .u8 0, .int .u8 0] := rfl
theorem putCells_size (n j : Nat) : (putCells n j).size = 8 := by simp [putCells]
theorem putCells_get (n j i : Nat) (hi : i < 8) : (putCells n j)[i]? = some (putCell n j i) := by
  simp [putCells, hi]
theorem putCells_set (n j : Nat) (hj : j < 8) : (putCells n j).setIfInBounds j (.int .u8 ((byteAt n j).toNat : Nat)) = putCells n (j + 1) := by
  apply Array.ext_getElem?
  intro i
  by_cases hi : i < 8
  · rw [Array.getElem?_setIfInBounds, putCells_get n (j + 1) i hi, putCells_get n j i hi, putCells_size]
    by_cases h : j = i
    · subst h; simp [hj, putCell]
    · simp only [h, if_false, putCell]
      congr 2
      simp; omega
  · rw [Array.getElem?_eq_none (by simp [putCells_size]; omega), Array.getElem?_eq_none (by simp [putCells_size]; omega)]

theorem byte_eq (n j : Nat) : (n : Int) / 2 ^ (8 * j) % 256 = ((byteAt n j).toNat : Nat) := by
  unfold byteAt
  generalize 8 * j = m
  have e : (2 : Int) ^ m = ((2 ^ m : Nat) : Int) := by push_cast; rfl
  rw [e]
  generalize 2 ^ m = p
  rw [UInt8.toNat_ofNat']
  omega

theorem put_no (n k : Int) (w : World) (h0 : 0 ≤ n) (h1 : n ≤ 18446744073709551615) (hk : k < 0 ∨ 8 < k) :
    Calls Tryd.prog 50 #[.int .u64 n, .int .i64 k] w fun e w' => e = .returned (.string ⟨#[]⟩) ∧ w = w' := by
  have H := Lib.hid hk; clear hk
  go_enter Tryd.func50, Tryd.ntmps50
  go_wp2_with (go_at_call 64; refine (isSize_no _ _ H.out).mono ?_; rintro e w' ⟨rfl, rfl⟩)
  go_ret
  exact ⟨rfl, rfl⟩

theorem put_yes (n k : Nat) (w : World) (hn : n ≤ 18446744073709551615) (hk : k ≤ 8) :
    Calls Tryd.prog 50 #[.int .u64 n, .int .i64 k] w fun e w' => e = .returned (.string ⟨(putL n k).toArray⟩) ∧ w' = w.alloc (.cells (putCells n k) 106) := by
  go_enter Tryd.func50, Tryd.ntmps50
  go_wp2_with (go_at_call 64; refine (isSize_yes _ _ (by omega) (by omega)).mono ?_; rintro e w' ⟨rfl, rfl⟩)
  go_loopw [6, 11] (fun _ i wr => ∃ j : Nat, j ≤ k ∧ i = .int .i64 j ∧ wr = w.alloc (.cells (putCells n j) 106)) (fun _ i _ => k - (intOf i).toNat)
  case atStart => exact ⟨0, by omega, rfl, by rw [putCells_zero]⟩
  case round =>
    obtain ⟨j, hj, rfl, rfl⟩ := hrel
    by_cases hlt : j < k
    · have hcell : (w.alloc (.cells (putCells n j) 106)).cell? ⟨w.heap.size, j, none⟩ = some (putCell n j j) := by
        rw [World.cell?_alloc_mark, putCells_get n j j (by omega)]
      go_wp2
      go_roundw
      case rel => exact ⟨j + 1, by omega, by go_num, by rw [byte_eq, putCells_set n j (by omega)]⟩
      case measure => simp [intOf]; omega
    · have hjk : j = k := by omega
      subst hjk
      clear hlt hj
      have hrun : ∀ c, (convert 66 9 (.slice (some ⟨w.heap.size, 0, none⟩) j c)).run Tryd.prog (w.alloc (.cells (putCells n j) 106)) = .ok (.string ⟨(putL n j).toArray⟩) (w.alloc (.cells (putCells n j) 106)) := by
        intro c
        have hc := run_convert_bytes_back (P := Tryd.prog) (w.alloc (.cells (putCells n j) 106)) 66 9 5 ⟨w.heap.size, 0, none⟩ c (putL n j) Tryd.underlying66 Tryd.underlying5 Tryd.underlying9
          (fun i hi => by
            have hij : i < j := by simpa [putL] using hi
            have ea : (⟨w.heap.size, 0, none⟩ : Addr).add i = ⟨w.heap.size, i, none⟩ := by unfold Addr.add; split <;> simp_all
            rw [ea, World.cell?_alloc_mark, putCells_get n j i (by omega)]
            simp [putCell, putL, hij])
        have hl : (putL n j).length = j := by simp [putL]
        rw [hl] at hc
        exact hc
      have hkz : (j : Int) ≤ 8 := by omega
      go_wp2
      go_ret
      exact ⟨rfl, rfl⟩
end Go.Proofs.YteepggjbgdjchaaDoor
