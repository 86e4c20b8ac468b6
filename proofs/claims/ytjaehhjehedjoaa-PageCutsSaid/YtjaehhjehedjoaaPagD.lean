
/- The contract of page.Cut. Condition: a string of at most 5000 bytes. -/
import Derived.Test.YtjaehhjehedjoaaPagC
import Derived.Test.YtjaehhjehedjoaaArr
import Derived.Deep.OwnRows
import Derived.KernelRfl
namespace Go.Proofs.Ytjaehhjehedjoaa
open Go.ChangeShapes Go.WideShapes Go.ChangeAt Go.RowKit
set_option linter.unusedVariables false
set_option linter.unusedSimpArgs false

theorem info_str : (Try.prog.info? 9).map (fun i => (i.zero, i.size, i.bytes)) = some (some (.string ⟨#[]⟩), 1, 16) := by kernel_rfl
/-- the sector i -/
def secB (s : ByteArray) (i : Nat) : ByteArray := s.extract (i * 64) ((i + 1) * 64)
def cutV (s : ByteArray) (j i : Nat) : Value := .string (if i < j then secB s i else ⟨#[]⟩)
/-- the row whose first j sectors are laid -/
def cutC (s : ByteArray) (j : Nat) : Array Value := ((List.range 8).map (cutV s j)).toArray
theorem cutC_size (s : ByteArray) (j : Nat) : (cutC s j).size = 8 := by simp [cutC]
theorem cutC_get (s : ByteArray) (j i : Nat) (hi : i < 8) : (cutC s j)[i]? = some (cutV s j i) := by simp [cutC, hi]
theorem cutC_zero (s : ByteArray) : madeCells #[Value.string ⟨#[]⟩] 8 = cutC s 0 := by
  apply Array.ext'
  rw [toList_madeCells_one]
  simp [cutC, cutV]
  rfl
theorem cutC_set (s : ByteArray) (j : Nat) (hj : j < 8) : (cutC s j).setIfInBounds j (.string (secB s j)) = cutC s (j + 1) := by
  apply Array.ext_getElem?
  intro i
  by_cases hi : i < 8
  · rw [Array.getElem?_setIfInBounds, cutC_get s (j + 1) i hi, cutC_get s j i hi, cutC_size]
    by_cases h : j = i
    · subst h; simp [hj, cutV]
    · simp only [h, if_false, cutV]
      congr 2
      by_cases h1 : i < j
      · rw [if_pos h1, if_pos (by omega)]
      · rw [if_neg h1, if_neg (by omega)]
  · rw [Array.getElem?_eq_none (by simp [cutC_size]; omega), Array.getElem?_eq_none (by simp [cutC_size]; omega)]
theorem secB_size (s : ByteArray) (i : Nat) (h : s.size = 512) (hi : i < 8) : (secB s i).size = 64 := by
  unfold secB; rw [ByteArray.size_extract]; omega

theorem cut_no (s : ByteArray) (w : World) (h : s.size ≠ 512) :
    Calls Try.prog 15 #[.string s] w fun e w' => e = .returned (.slice none 0 0) ∧ w = w' := by
  have h3 : ((s.size : Int) != 512) = true := by rw [bne_iff_ne]; omega
  clear h
  go_enter Try.func15, Try.ntmps15
  go_wp2
  go_ret
  exact ⟨rfl, rfl⟩
theorem cut_yes (s : ByteArray) (w : World) (h : s.size = 512) :
    Calls Try.prog 15 #[.string s] w fun e w' => e = .returned (.slice (some ⟨w.heap.size, 0, none⟩) 8 8) ∧ Own w' w.heap.size 9 (cutC s 8) ∧ Below w.heap.size w w' := by
  have h3 : ((s.size : Int) != 512) = false := by simp; omega
  have HM : (Instr.makeSlice 42 (.int .i64 8) (.int .i64 8)).run Try.prog w = _ := run_make_row' (P := Try.prog) 42 9 (.string ⟨#[]⟩) 16 Try.underlying42 info_str rfl .i64 .i64 8 (by omega) (by omega) w
  rw [cutC_zero s] at HM
  have HO := Own.made w 9 (cutC s 0)
  obtain ⟨W0, hW0⟩ : ∃ W0, W0 = w.alloc (.cells (cutC s 0) 9) := ⟨_, rfl⟩
  have L0 : Below w.heap.size w W0 := hW0 ▸ (Below.refl _ _).alloc (Nat.le_refl _) _
  rw [← hW0] at HM HO
  replace HO := Lib.hid HO
  replace L0 := Lib.hid L0
  have HS := Lib.hid h
  clear hW0 h
  go_enter Try.func15, Try.ntmps15
  go_wp2
  clear HM
  go_loopw [9] (fun i wr => ∃ k : Nat, k ≤ 8 ∧ i = .int .i64 k ∧ Own wr w.heap.size 9 (cutC s k) ∧ Below w.heap.size w wr) (fun i wr => 8 - (intOf i).toNat)
  case atStart => exact ⟨0, by omega, rfl, HO.out, L0.out⟩
  case round =>
    obtain ⟨k, hk, rfl, hO, hL⟩ := hrel
    by_cases hlt : k < 8
    · have hs := HS.out
      have g1 : ((k : Int) + 1) * 64 ≤ s.size := by omega
      have g2 : (k : Int) * 64 ≤ ((k : Int) + 1) * 64 := by omega
      have e1 : s.extract ((k : Int) * 64).toNat (((k : Int) + 1) * 64).toNat = secB s k := by
        unfold secB; congr 1 <;> omega
      have HC := Lib.hid (fun w => clone_any (secB s k) w (by rw [secB_size s k hs hlt]; omega))
      have hsz := hL.size
      replace hO := Lib.hid hO
      replace hL := Lib.hid hL
      have hsl := run_slice_string (P := Try.prog) wr 9 s .i64 .i64 ((k : Int) * 64) (((k : Int) + 1) * 64) Try.underlying9 (by omega) (by omega) (by omega)
      rw [e1] at hsl
      clear hs e1
      go_wp2_with (go_at_call 20; refine (HC.out _).mono ?_; rintro e w2 ⟨rfl, hb2⟩; have hO2 := hO.out.keep hb2; have hc2 := hO2.at_.2.1; have hc3 : w2.cell? ⟨w.heap.size, k, none⟩ = some (cutV s k k) := (hO2.at_.1 k).trans (cutC_get s k k hlt); replace hO2 := Lib.hid hO2)
      go_roundw
      case rel =>
        have hL2 := then_ hL.out hb2 hsz
        exact ⟨k + 1, by omega, by go_num, (hO2.out.put k _).as (cutC_set s k hlt), hL2.setCell (Nat.le_refl _) _⟩
      case measure => simp [intOf]; omega
    · obtain rfl : k = 8 := by omega
      go_wp2
      go_ret
      exact ⟨rfl, hO, hL⟩
end Go.Proofs.Ytjaehhjehedjoaa
