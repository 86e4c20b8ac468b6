
/- The contract of wide.compare: rows of words against each other. Conditions: the rows can be read, up to 8 words. -/
import Derived.Test.YtdnjkminicmffaaDoorArr
import Derived.Test.YtdnjkminicmffaaDoorNum
import Derived.WalkSpells
import Derived.Deep.QuietTactic
import Derived.BigQuiet
namespace Go.Proofs.YtdnjkminicmffaaDoor
open Go.ChangeShapes Go.WideShapes Go.ChangeAt Go.RowKit
set_option linter.unusedVariables false

/-- what comparing the first n words, from the highest on, answers -/
def cmpW (X Y : Nat → Int) : Nat → Int
  | 0 => 0
  | n + 1 => if X n < Y n then -1 else if X n > Y n then 1 else cmpW X Y n
theorem cmpW_lt {X Y : Nat → Int} {n : Nat} (h : X n < Y n) : cmpW X Y (n + 1) = -1 := by simp [cmpW, h]
theorem cmpW_gt {X Y : Nat → Int} {n : Nat} (h : Y n < X n) : cmpW X Y (n + 1) = 1 := by
  have : ¬ X n < Y n := by omega
  simp [cmpW, h, this]
theorem cmpW_eq {X Y : Nat → Int} {n : Nat} (h : X n = Y n) : cmpW X Y (n + 1) = cmpW X Y n := by simp [cmpW, h]

set_option maxHeartbeats 1600000 in
set_option maxRecDepth 20000 in
theorem compare_any (X Y : Nat → Int) (p q n c d : Nat) (hn : n ≤ 8) (w : World) (hX : ∀ i, i < n → w.cell? ⟨p, i, none⟩ = some (.int .u64 (X i))) (hY : ∀ i, i < n → w.cell? ⟨q, i, none⟩ = some (.int .u64 (Y i))) :
    Calls Tryd.prog 50 #[.slice (some ⟨p, 0, none⟩) n c, .slice (some ⟨q, 0, none⟩) n d] w fun e w' => e = .returned (.int .i64 (cmpW X Y n)) ∧ ∃ m, w' = w.drewN m := by
  have HX := Lib.hid hX; have HY := Lib.hid hY
  clear hX hY
  go_enter Tryd.func50, Tryd.ntmps50
  go_wp2
  go_loopw [5] (fun i wr => ∃ k m : Nat, k ≤ n ∧ Hid (cmpW X Y n = cmpW X Y k) ∧ i = .int .i64 ((k : Int) - 1) ∧ wr = w.drewN m) (fun i _ => (intOf i + 1).toNat)
  case atStart => exact ⟨n, 0, Nat.le_refl _, rfl, rfl, by rw [World.drewN_zero]⟩
  case round =>
    obtain ⟨k, m, hk, HK, rfl, rfl⟩ := hrel
    by_cases hk0 : k = 0
    · subst hk0
      go_wp2
      go_ret
      exact ⟨ret_eq (by rw [HK.out]; rfl), m, rfl⟩
    · obtain ⟨j, rfl⟩ : ∃ j, k = j + 1 := ⟨k - 1, by omega⟩
      have hx := HX.out j (by omega)
      have hy := HY.out j (by omega)
      have i0 : (0 : Int) ≤ (j : Int) := by omega
      have i1 : (j : Int) < (n : Int) := by omega
      have i2 : ((j + 1 : Nat) : Int) - 1 = (j : Int) := by omega
      rw [i2]
      clear i2 hk0
      by_cases hl : X j < Y j
      · have HL := Lib.hid (cmpW_lt hl)
        go_wp2
        go_region
        all_goals
          go_wp2
          go_ret
          exact ⟨ret_eq (by rw [HK.out, HL.out]), m + 1, rfl⟩
      · by_cases hg : Y j < X j
        · have HL := Lib.hid (cmpW_gt hg)
          have d1 : decide (X j < Y j) = false := by simpa using hl
          clear hl
          go_wp2
          go_region
          all_goals
            go_wp2
            go_region
            all_goals
              go_wp2
              go_ret
              exact ⟨ret_eq (by rw [HK.out, HL.out]), m + 1 + 1, rfl⟩
        · have HL := Lib.hid (cmpW_eq (X := X) (Y := Y) (n := j) (by omega))
          have d1 : decide (X j < Y j) = false := by simpa using hl
          have d2 : decide (Y j < X j) = false := by simpa using hg
          clear hl hg
          go_wp2
          go_region
          all_goals
            go_wp2
            go_region
            all_goals
              go_wp2
              go_roundw
              case rel => exact ⟨j, m + 1 + 1, by omega, by unfold Hid; rw [HK.out, HL.out], rfl, rfl⟩
              case measure => simp [intOf]
end Go.Proofs.YtdnjkminicmffaaDoor
