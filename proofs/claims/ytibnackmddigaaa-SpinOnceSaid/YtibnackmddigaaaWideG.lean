/- merged: The contract of wide.up over words, by how many whole words are moved. Conditions: words; n not below 0. Plain mathematics: numbers of 256 bits moved up and down. It speaks of no program. The contract of wide.down over words, by how many whole words are moved. Conditions: words; n not below 0. The contracts of wide.up and wide.down over numbers. Conditions: the number of places not below 0; down: a number that a size can be. Plain mathematics of long division, bit by bit. It speaks of no program. The contract of wide.compare: rows of words against each other. Conditions: the rows can be read, up to 8 words. The contracts of wide.turned, Of, length. Conditions: those that each theorem names. The contract of wide.divide: the short ways. Conditions: sizes, b not nought. The contracts of wide.Add, Sub, Neg. Conditions: numbers that a wide.Int can be. -/
import Derived.Test.YtibnackmddigaaaWideA
import Derived.Test.YtibnackmddigaaaNum
import Derived.WalkSpells
import Derived.Handy
import Derived.Deep.QuietTactic
import Derived.BigQuiet
import Derived.Test.YtibnackmddigaaaShelf
import Derived.Lib.ItoaNum
import Derived.Test.YtibnackmddigaaaWideC
section
namespace Go.Proofs.Ytibnackmddigaaa
open Go.ChangeShapes Go.WideShapes Go.ChangeAt Go.RowKit
set_option linter.unusedVariables false

/-- a word moved up, alone and with what comes in from the word below -/
def su (x r : Int) : Int := IntKind.u64.wrap (x * 2 ^ r.toNat)
end Go.Proofs.Ytibnackmddigaaa
end
section
namespace Go.Proofs.Ytibnackmddigaaa

theorem Siz.small {a : Int} (h : Siz a) (n : Nat) (hn : 256 ≤ n) : a / 2 ^ n = 0 := by
  obtain ⟨h0, h1⟩ := h
  refine Int.ediv_eq_zero_of_lt h0 ?_
  have e : (2 : Int) ^ 256 ≤ 2 ^ n := by exact_mod_cast Nat.pow_le_pow_right (by omega : 0 < 2) hn
  have e2 : (2 : Int) ^ 256 = 115792089237316195423570985008687907853269984665640564039457584007913129639936 := by decide +kernel
  omega
end Go.Proofs.Ytibnackmddigaaa
end
section
namespace Go.Proofs.Ytibnackmddigaaa
open Go.ChangeShapes Go.WideShapes Go.ChangeAt Go.RowKit
set_option linter.unusedVariables false

def sp (x y r : Int) : Int := bits .or .u64 (x / 2 ^ r.toNat) (IntKind.u64.wrap (y * 2 ^ (64 - r).toNat))
end Go.Proofs.Ytibnackmddigaaa
end
section
namespace Go.Proofs.Ytibnackmddigaaa
open Go.ChangeShapes Go.WideShapes Go.ChangeAt Go.RowKit
set_option linter.unusedVariables false

end Go.Proofs.Ytibnackmddigaaa
end
section
namespace Go.Proofs.Ytibnackmddigaaa

theorem pow_pos2 (n : Nat) : (0 : Int) < 2 ^ n := Int.pow_pos (by decide)
theorem pow_succ2 (n : Nat) : (2 : Int) ^ (n + 1) = 2 * 2 ^ n := by rw [Int.pow_succ, Int.mul_comm]
structure DivAt (a b q r : Int) (n : Nat) : Prop where
  eq : a = q * b + r
  r0 : 0 ≤ r
  lt : r < b * 2 ^ n
  q0 : 0 ≤ q
  low : q % 2 ^ n = 0
theorem DivAt.part (b : Int) (n : Nat) : b * 2 ^ (n + 1) / 2 = b * 2 ^ n := by
  rw [pow_succ2, ← Int.mul_assoc, Int.mul_comm b 2, Int.mul_assoc, Int.mul_ediv_cancel_left _ (by decide)]
theorem DivAt.take {a b q r : Int} {n : Nat} (h : DivAt a b q r (n + 1)) (hr : b * 2 ^ n ≤ r) : DivAt a b (q + 2 ^ n) (r - b * 2 ^ n) n := by
  obtain ⟨e, r0, lt, q0, low⟩ := h
  have p := pow_pos2 n
  rw [pow_succ2] at lt low
  refine ⟨?_, by omega, ?_, by omega, ?_⟩
  · rw [Int.add_mul, e, Int.mul_comm (2 ^ n) b]; omega
  · rw [← Int.mul_assoc, Int.mul_comm b 2, Int.mul_assoc] at lt; omega
  · have h1 := (Int.emod_emod_of_dvd q (show (2 ^ n : Int) ∣ 2 * 2 ^ n from Int.dvd_mul_left 2 (2 ^ n)))
    rw [low] at h1
    rw [Int.add_emod_right, ← h1]; exact Int.zero_emod _
theorem DivAt.done {a b q r : Int} (h : DivAt a b q r 0) (hb : 0 < b) : q = a / b ∧ r = a % b := by
  obtain ⟨e, r0, lt, q0, low⟩ := h
  rw [show (2 : Int) ^ 0 = 1 from rfl, Int.mul_one] at lt
  have h1 : a / b = q := by
    rw [e, Int.add_comm, Int.add_mul_ediv_right _ _ (by omega), Int.ediv_eq_zero_of_lt r0 lt, Int.zero_add]
  have h2 := Int.emod_def a b
  rw [h1, Int.mul_comm, e] at h2
  constructor
  · exact h1.symm
  · rw [e, h2]; omega
/-- the words of a number, by their places -/
def Lf (z : Int) : Nat → Int
  | 0 => L0 z
  | 1 => L1 z
  | 2 => L2 z
  | _ => L3 z
end Go.Proofs.Ytibnackmddigaaa
end
section
namespace Go.Proofs.Ytibnackmddigaaa
open Go.ChangeShapes Go.WideShapes Go.ChangeAt Go.RowKit
set_option linter.unusedVariables false

/-- what comparing the first n words, from the highest on, answers -/
def cmpW (X Y : Nat → Int) : Nat → Int
  | 0 => 0
  | n + 1 => if X n < Y n then -1 else if X n > Y n then 1 else cmpW X Y n
theorem cmpW_lt {X Y : Nat → Int} {n : Nat} (h : X n < Y n) : cmpW X Y (n + 1) = -1 := by simp [cmpW, h]
theorem cmpW_gt {X Y : Nat → Int} {n : Nat} (h : Y n < X n) : cmpW X Y (n + 1) = 1 := by
  have : ¬ X n < Y n := by omega
  simp [cmpW, h, this]
theorem cmpW_eq {X Y : Nat → Int} {n : Nat} (h : X n = Y n) : cmpW X Y (n + 1) = cmpW X Y n := by simp [cmpW, h]

set_option maxHeartbeats 1600000 in
set_option maxRecDepth 20000 in
theorem compare_any (X Y : Nat → Int) (p q n c d : Nat) (hn : n ≤ 8) (w : World) (hX : ∀ i, i < n → w.cell? ⟨p, i, none⟩ = some (.int .u64 (X i))) (hY : ∀ i, i < n → w.cell? ⟨q, i, none⟩ = some (.int .u64 (Y i))) :
    Calls Try.prog 89 #[.slice (some ⟨p, 0, none⟩) n c, .slice (some ⟨q, 0, none⟩) n d] w fun e w' => e = .returned (.int .i64 (cmpW X Y n)) ∧ ∃ m, w' = w.drewN m := by
  have HX := Lib.hid hX; have HY := Lib.hid hY
  clear hX hY
  go_enter Try.func89, Try.ntmps89
  go_wp2
  go_loopw [5] (fun i wr => ∃ k m : Nat, k ≤ n ∧ Hid (cmpW X Y n = cmpW X Y k) ∧ i = .int .i64 ((k : Int) - 1) ∧ wr = w.drewN m) (fun i _ => (intOf i + 1).toNat)
  case atStart => exact ⟨n, 0, Nat.le_refl _, rfl, rfl, by rw [World.drewN_zero]⟩
  case round =>
    obtain ⟨k, m, hk, HK, rfl, rfl⟩ := hrel
    by_cases hk0 : k = 0
    · subst hk0
      go_wp2
      go_ret
      exact ⟨ret_eq (by rw [HK.out]; rfl), m, rfl⟩
    · obtain ⟨j, rfl⟩ : ∃ j, k = j + 1 := ⟨k - 1, by omega⟩
      have hx := HX.out j (by omega)
      have hy := HY.out j (by omega)
      have i0 : (0 : Int) ≤ (j : Int) := by omega
      have i1 : (j : Int) < (n : Int) := by omega
      have i2 : ((j + 1 : Nat) : Int) - 1 = (j : Int) := by omega
      rw [i2]
      clear i2 hk0
      by_cases hl : X j < Y j
      · have HL := Lib.hid (cmpW_lt hl)
        go_wp2
        go_region
        all_goals
          go_wp2
          go_ret
          exact ⟨ret_eq (by rw [HK.out, HL.out]), m + 1, rfl⟩
      · by_cases hg : Y j < X j
        · have HL := Lib.hid (cmpW_gt hg)
          have d1 : decide (X j < Y j) = false := by simpa using hl
          clear hl
          go_wp2
          go_region
          all_goals
            go_wp2
            go_region
            all_goals
              go_wp2
              go_ret
              exact ⟨ret_eq (by rw [HK.out, HL.out]), m + 1 + 1, rfl⟩
        · have HL := Lib.hid (cmpW_eq (X := X) (Y := Y) (n := j) (by omega))
          have d1 : decide (X j < Y j) = false := by simpa using hl
          have d2 : decide (Y j < X j) = false := by simpa using hg
          clear hl hg
          go_wp2
          go_region
          all_goals
            go_wp2
            go_region
            all_goals
              go_wp2
              go_roundw
              case rel => exact ⟨j, m + 1 + 1, by omega, by unfold Hid; rw [HK.out, HL.out], rfl, rfl⟩
              case measure => simp [intOf]
end Go.Proofs.Ytibnackmddigaaa
end
section
namespace Go.Proofs.Ytibnackmddigaaa
open Go.ChangeShapes Go.WideShapes Go.ChangeAt Go.RowKit
set_option linter.unusedVariables false

theorem L_of (n : Int) (h0 : -9223372036854775808 ≤ n) (h1 : n ≤ 9223372036854775807) : IntKind.u64.wrap n = L0 n ∧ IntKind.u64.wrap (n / 9223372036854775808) = L1 n ∧ IntKind.u64.wrap (n / 9223372036854775808) = L2 n ∧ IntKind.u64.wrap (n / 9223372036854775808) = L3 n := by
  simp only [IntKind.wrap_u64]
  unfold L0 L1 L2 L3
  by_cases h : n < 0
  · have e1 : n / 9223372036854775808 = -1 := by omega
    have e2 : n / 18446744073709551616 = -1 := by omega
    rw [e1, e2]; exact ⟨rfl, by decide, by decide, by decide⟩
  · have e1 : n / 9223372036854775808 = 0 := by omega
    have e2 : n / 18446744073709551616 = 0 := by omega
    rw [e1, e2]; exact ⟨rfl, by decide, by decide, by decide⟩
theorem of_any (n : Int) (h0 : -9223372036854775808 ≤ n) (h1 : n ≤ 9223372036854775807) (w : World) :
    Calls Try.prog 46 #[.int .i64 n] w fun e w' => e = .returned (.agg #[.int .u64 (L0 n), .int .u64 (L1 n), .int .u64 (L2 n), .int .u64 (L3 n)]) ∧ ∃ c1, w' = (w.alloc (.cells c1 61)) := by
  obtain ⟨t0, t1, t2, t3⟩ := L_of n h0 h1
  rw [← t0, ← t3]
  rw [show L1 n = IntKind.u64.wrap (n / 9223372036854775808) from t1.symm, show L2 n = IntKind.u64.wrap (n / 9223372036854775808) from t2.symm]
  clear t0 t1 t2 t3
  go_enter Try.func46, Try.ntmps46
  go_wp2
  exact bodyPost_ret (by simp [results, Try.results46, go_sem]) rfl ⟨rfl, _, rfl⟩
end Go.Proofs.Ytibnackmddigaaa
end
section
namespace Go.Proofs.Ytibnackmddigaaa
open Go.ChangeShapes Go.WideShapes Go.ChangeAt Go.RowKit
set_option linter.unusedVariables false

theorem cmp_siz {r s : Int} (hr : Siz r) (hs : Siz s) : cmpW (Lf r) (Lf s) 4 = if r < s then -1 else if s < r then 1 else 0 := by
  obtain ⟨h0, h1⟩ := hr; obtain ⟨h2, h3⟩ := hs
  have e : ∀ z : Int, 0 ≤ z → z ≤ 115792089237316195423570985008687907853269984665640564039457584007913129639935 → z = L0 z + 18446744073709551616 * L1 z + 340282366920938463463374607431768211456 * L2 z + 6277101735386680763835789423207666416102355444464034512896 * L3 z := fun z _ _ => by unfold L0 L1 L2 L3; omega
  have er := e r h0 h1; have es := e s h2 h3
  obtain ⟨a0, b0, a1, b1, a2, b2, a3, b3⟩ := W4.of r
  obtain ⟨c0, d0, c1, d1, c2, d2, c3, d3⟩ := W4.of s
  unfold cmpW cmpW cmpW cmpW cmpW Lf
  simp only []
  generalize L0 r = x0 at *; generalize L1 r = x1 at *; generalize L2 r = x2 at *; generalize L3 r = x3 at *
  generalize L0 s = y0 at *; generalize L1 s = y1 at *; generalize L2 s = y2 at *; generalize L3 s = y3 at *
  repeat' split
  all_goals first | rfl | omega
end Go.Proofs.Ytibnackmddigaaa
end
section
namespace Go.Proofs.Ytibnackmddigaaa
open Go.ChangeShapes Go.WideShapes Go.ChangeAt Go.RowKit
set_option linter.unusedVariables false

end Go.Proofs.Ytibnackmddigaaa
end
