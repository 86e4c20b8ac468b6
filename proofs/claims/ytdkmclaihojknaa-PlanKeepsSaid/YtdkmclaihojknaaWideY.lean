/- merged: What '==' says of two arrays of four words. No condition. The contract of wide.compare: rows of words against each other. Conditions: the rows can be read, up to 8 words. The contracts of wide.below, plus, minus over numbers. No condition. The contract of wide.divide: the short ways. Conditions: sizes, b not nought. The contract of wide.divide: the long way. Conditions: sizes, b not nought. The contract of wide.divide. Conditions: sizes, b not nought. -/
import Derived.Test.YtdkmclaihojknaaWideL
import Derived.Test.YtdkmclaihojknaaRatM
import Derived.Laws.StructEq
import Derived.Laws.Tables
import Derived.Laws.Cover2
import Derived.KernelRfl
import Derived.WalkSpells
import Derived.Deep.QuietTactic
import Derived.BigQuiet
import Derived.Test.YtdkmclaihojknaaWideM
import Derived.Test.YtdkmclaihojknaaDivM
import Derived.IntWalk
section
namespace Go.Proofs.Ytdkmclaihojknaa
open Go.ChangeShapes Go.WideShapes Go.ChangeAt Go.RowKit
set_option linter.unusedVariables false

theorem eq_Int (x0 x1 x2 x3 : Int) (y0 y1 y2 y3 : Int) (w : World) : (Op.equalIn 10000 103 (.agg #[.int .u64 x0, .int .u64 x1, .int .u64 x2, .int .u64 x3]) (.agg #[.int .u64 y0, .int .u64 y1, .int .u64 y2, .int .u64 y3])).run Try.prog w = .ok (decide (x0 = y0 ∧ x1 = y1 ∧ x2 = y2 ∧ x3 = y3)) w := by
  have u3 := Try.underlying101
  have a3 := Try.isAgg101
  have z3 := Try.sizeOf101
  rw [show (10000 : Nat) = 9999 + 1 from rfl, Op.equalIn]
  simp only [Sem.run_bind, run_underlying Try.underlying103, Result.andThen_ok]
  simp only [Std.Legacy.Range.forIn_eq_forIn_range', Std.Legacy.Range.size, Nat.sub_zero, Nat.add_sub_cancel, Nat.div_one, List.range'_succ, List.range'_zero, List.forIn_cons, List.forIn_nil]
  go_simp
  by_cases h0 : x0 = y0 <;> by_cases h1 : x1 = y1 <;> by_cases h2 : x2 = y2 <;> by_cases h3 : x3 = y3 <;> simp [h0, h1, h2, h3]
theorem eq_size (x0 x1 x2 x3 : Int) (y0 y1 y2 y3 : Int) (w : World) : (Op.equalIn 10000 108 (.agg #[.int .u64 x0, .int .u64 x1, .int .u64 x2, .int .u64 x3]) (.agg #[.int .u64 y0, .int .u64 y1, .int .u64 y2, .int .u64 y3])).run Try.prog w = .ok (decide (x0 = y0 ∧ x1 = y1 ∧ x2 = y2 ∧ x3 = y3)) w := by
  have u3 := Try.underlying101
  have a3 := Try.isAgg101
  have z3 := Try.sizeOf101
  rw [show (10000 : Nat) = 9999 + 1 from rfl, Op.equalIn]
  simp only [Sem.run_bind, run_underlying Try.underlying108, Result.andThen_ok]
  simp only [Std.Legacy.Range.forIn_eq_forIn_range', Std.Legacy.Range.size, Nat.sub_zero, Nat.add_sub_cancel, Nat.div_one, List.range'_succ, List.range'_zero, List.forIn_cons, List.forIn_nil]
  go_simp
  by_cases h0 : x0 = y0 <;> by_cases h1 : x1 = y1 <;> by_cases h2 : x2 = y2 <;> by_cases h3 : x3 = y3 <;> simp [h0, h1, h2, h3]
theorem eq_arr (x0 x1 x2 x3 : Int) (y0 y1 y2 y3 : Int) (w : World) : (Op.equalIn 10000 102 (.agg #[.int .u64 x0, .int .u64 x1, .int .u64 x2, .int .u64 x3]) (.agg #[.int .u64 y0, .int .u64 y1, .int .u64 y2, .int .u64 y3])).run Try.prog w = .ok (decide (x0 = y0 ∧ x1 = y1 ∧ x2 = y2 ∧ x3 = y3)) w := by
  have u3 := Try.underlying101
  have a3 := Try.isAgg101
  have z3 := Try.sizeOf101
  rw [show (10000 : Nat) = 9999 + 1 from rfl, Op.equalIn]
  simp only [Sem.run_bind, run_underlying Try.underlying102, Result.andThen_ok]
  simp only [Std.Legacy.Range.forIn_eq_forIn_range', Std.Legacy.Range.size, Nat.sub_zero, Nat.add_sub_cancel, Nat.div_one, List.range'_succ, List.range'_zero, List.forIn_cons, List.forIn_nil]
  go_simp
  by_cases h0 : x0 = y0 <;> by_cases h1 : x1 = y1 <;> by_cases h2 : x2 = y2 <;> by_cases h3 : x3 = y3 <;> simp [h0, h1, h2, h3]
theorem dec_fit {a b : Int} (ha : Fit a) (hb : Fit b) : decide (L0 a = L0 b ∧ L1 a = L1 b ∧ L2 a = L2 b ∧ L3 a = L3 b) = decide (a = b) := by
  by_cases h : a = b
  · simp [h]
  · have : ¬ (L0 a = L0 b ∧ L1 a = L1 b ∧ L2 a = L2 b ∧ L3 a = L3 b) := fun ⟨h0, h1, h2, h3⟩ => h (ha.inj hb h0 h1 h2 h3)
    simp only [this, h]
theorem dec_siz {a b : Int} (ha : Siz a) (hb : Siz b) : decide (L0 a = L0 b ∧ L1 a = L1 b ∧ L2 a = L2 b ∧ L3 a = L3 b) = decide (a = b) := by
  by_cases h : a = b
  · simp [h]
  · have : ¬ (L0 a = L0 b ∧ L1 a = L1 b ∧ L2 a = L2 b ∧ L3 a = L3 b) := fun ⟨h0, h1, h2, h3⟩ => h (ha.inj hb h0 h1 h2 h3)
    simp only [this, h]
theorem eq_fit {a b : Int} (ha : Fit a) (hb : Fit b) (w : World) : (Op.equalIn 10000 103 (.agg #[.int .u64 (L0 a), .int .u64 (L1 a), .int .u64 (L2 a), .int .u64 (L3 a)]) (.agg #[.int .u64 (L0 b), .int .u64 (L1 b), .int .u64 (L2 b), .int .u64 (L3 b)])).run Try.prog w = .ok (decide (a = b)) w := by
  rw [eq_Int, dec_fit ha hb]
theorem eq_siz {a b : Int} (ha : Siz a) (hb : Siz b) (w : World) : (Op.equalIn 10000 108 (.agg #[.int .u64 (L0 a), .int .u64 (L1 a), .int .u64 (L2 a), .int .u64 (L3 a)]) (.agg #[.int .u64 (L0 b), .int .u64 (L1 b), .int .u64 (L2 b), .int .u64 (L3 b)])).run Try.prog w = .ok (decide (a = b)) w := by
  rw [eq_size, dec_siz ha hb]
end Go.Proofs.Ytdkmclaihojknaa
end
section
namespace Go.Proofs.Ytdkmclaihojknaa
open Go.ChangeShapes Go.WideShapes Go.ChangeAt Go.RowKit
set_option linter.unusedVariables false

/-- what comparing the first n words, from the highest on, answers -/
def cmpW (X Y : Nat → Int) : Nat → Int
  | 0 => 0
  | n + 1 => if X n < Y n then -1 else if X n > Y n then 1 else cmpW X Y n
theorem cmpW_lt {X Y : Nat → Int} {n : Nat} (h : X n < Y n) : cmpW X Y (n + 1) = -1 := by simp [cmpW, h]
theorem cmpW_gt {X Y : Nat → Int} {n : Nat} (h : Y n < X n) : cmpW X Y (n + 1) = 1 := by
  have : ¬ X n < Y n := by omega
  simp [cmpW, h, this]
theorem cmpW_eq {X Y : Nat → Int} {n : Nat} (h : X n = Y n) : cmpW X Y (n + 1) = cmpW X Y n := by simp [cmpW, h]

set_option maxHeartbeats 1600000 in
set_option maxRecDepth 20000 in
theorem compare_any (X Y : Nat → Int) (p q n c d : Nat) (hn : n ≤ 8) (w : World) (hX : ∀ i, i < n → w.cell? ⟨p, i, none⟩ = some (.int .u64 (X i))) (hY : ∀ i, i < n → w.cell? ⟨q, i, none⟩ = some (.int .u64 (Y i))) :
    Calls Try.prog 76 #[.slice (some ⟨p, 0, none⟩) n c, .slice (some ⟨q, 0, none⟩) n d] w fun e w' => e = .returned (.int .i64 (cmpW X Y n)) ∧ ∃ m, w' = w.drewN m := by
  have HX := Lib.hid hX; have HY := Lib.hid hY
  clear hX hY
  go_enter Try.func76, Try.ntmps76
  go_wp2
  go_loopw [5] (fun i wr => ∃ k m : Nat, k ≤ n ∧ Hid (cmpW X Y n = cmpW X Y k) ∧ i = .int .i64 ((k : Int) - 1) ∧ wr = w.drewN m) (fun i _ => (intOf i + 1).toNat)
  case atStart => exact ⟨n, 0, Nat.le_refl _, rfl, rfl, by rw [World.drewN_zero]⟩
  case round =>
    obtain ⟨k, m, hk, HK, rfl, rfl⟩ := hrel
    by_cases hk0 : k = 0
    · subst hk0
      go_wp2
      go_ret
      exact ⟨ret_eq (by rw [HK.out]; rfl), m, rfl⟩
    · obtain ⟨j, rfl⟩ : ∃ j, k = j + 1 := ⟨k - 1, by omega⟩
      have hx := HX.out j (by omega)
      have hy := HY.out j (by omega)
      have i0 : (0 : Int) ≤ (j : Int) := by omega
      have i1 : (j : Int) < (n : Int) := by omega
      have i2 : ((j + 1 : Nat) : Int) - 1 = (j : Int) := by omega
      rw [i2]
      clear i2 hk0
      by_cases hl : X j < Y j
      · have HL := Lib.hid (cmpW_lt hl)
        go_wp2
        go_region
        all_goals
          go_wp2
          go_ret
          exact ⟨ret_eq (by rw [HK.out, HL.out]), m + 1, rfl⟩
      · by_cases hg : Y j < X j
        · have HL := Lib.hid (cmpW_gt hg)
          have d1 : decide (X j < Y j) = false := by simpa using hl
          clear hl
          go_wp2
          go_region
          all_goals
            go_wp2
            go_region
            all_goals
              go_wp2
              go_ret
              exact ⟨ret_eq (by rw [HK.out, HL.out]), m + 1 + 1, rfl⟩
        · have HL := Lib.hid (cmpW_eq (X := X) (Y := Y) (n := j) (by omega))
          have d1 : decide (X j < Y j) = false := by simpa using hl
          have d2 : decide (Y j < X j) = false := by simpa using hg
          clear hl hg
          go_wp2
          go_region
          all_goals
            go_wp2
            go_region
            all_goals
              go_wp2
              go_roundw
              case rel => exact ⟨j, m + 1 + 1, by omega, by unfold Hid; rw [HK.out, HL.out], rfl, rfl⟩
              case measure => simp [intOf]
end Go.Proofs.Ytdkmclaihojknaa
end
section
namespace Go.Proofs.Ytdkmclaihojknaa
open Go.ChangeShapes Go.WideShapes Go.ChangeAt Go.RowKit Go.Shelf
set_option linter.unusedVariables false

theorem below_any (z : Int) (w : World) :
    Calls Try.prog 78 #[.agg #[.int .u64 (L0 z), .int .u64 (L1 z), .int .u64 (L2 z), .int .u64 (L3 z)]] w fun e w' => e = .returned (.bool (ngB z)) ∧ ∃ c, w' = w.alloc (.cells c 103) := below_gen _ _ _ _ (W4.of z) w
theorem below_is {z : Int} {s : Bool} (h : ngB z = s) (w : World) :
    Calls Try.prog 78 #[.agg #[.int .u64 (L0 z), .int .u64 (L1 z), .int .u64 (L2 z), .int .u64 (L3 z)]] w fun e w' => e = .returned (.bool s) ∧ ∃ c, w' = w.alloc (.cells c 103) := h ▸ below_any z w
theorem minus_any (a b : Int) (w : World) :
    Calls Try.prog 81 #[.agg #[.int .u64 (L0 a), .int .u64 (L1 a), .int .u64 (L2 a), .int .u64 (L3 a)], .agg #[.int .u64 (L0 b), .int .u64 (L1 b), .int .u64 (L2 b), .int .u64 (L3 b)]] w fun e w' => e = .returned (.agg #[.int .u64 (L0 (a - b)), .int .u64 (L1 (a - b)), .int .u64 (L2 (a - b)), .int .u64 (L3 (a - b))]) ∧ ∃ c1 c2 c3 c4 n, w' = ((((w.alloc (.cells c1 108)).alloc (.cells c2 108)).alloc (.cells c3 108)).alloc (.cells c4 108)).drewN n := by
  obtain ⟨h0, h1, h2, h3⟩ := L_sub (a := a) (b := b) ⟨rfl, rfl, rfl, rfl⟩ ⟨rfl, rfl, rfl, rfl⟩
  rw [← h0, ← h1, ← h2, ← h3]
  exact minus_gen _ _ _ _ _ _ _ _ (W4.of a) (W4.of b) w
end Go.Proofs.Ytdkmclaihojknaa
end
section
namespace Go.Proofs.Ytdkmclaihojknaa
open Go.ChangeShapes Go.WideShapes Go.ChangeAt Go.RowKit
set_option linter.unusedVariables false

theorem minus_b (a b : Int) (w : World) :
    Calls Try.prog 81 #[.agg #[.int .u64 (L0 a), .int .u64 (L1 a), .int .u64 (L2 a), .int .u64 (L3 a)], .agg #[.int .u64 (L0 b), .int .u64 (L1 b), .int .u64 (L2 b), .int .u64 (L3 b)]] w fun e w' => e = .returned (.agg #[.int .u64 (L0 (a - b)), .int .u64 (L1 (a - b)), .int .u64 (L2 (a - b)), .int .u64 (L3 (a - b))]) ∧ Below w.heap.size w w' :=
  (minus_any a b w).mono fun e w' ⟨he, c1, c2, c3, c4, m, hw⟩ => ⟨he, by rw [hw]; repeat' (first | (with_reducible exact Below.refl _ _) | (with_reducible assumption) | (with_reducible refine below_drewN ?_ _) | (with_reducible refine Below.drew ?_) | (with_reducible refine Below.alloc ?_ ?_ _) | (with_reducible refine Below.setCell ?_ ?_ _) | (with_reducible refine then_ ?_ (by with_reducible assumption) ?_) | (with_reducible exact Nat.le_refl _) | (with_reducible exact Nat.le_succ _) | (with_reducible exact Nat.le_succ_of_le (by with_reducible assumption)) | omega | (simp; done) | (simp; omega) | (exact Nat.le_succ _) | (exact Nat.le_succ_of_le (by with_reducible assumption)))⟩
theorem cmp_siz {r s : Int} (hr : Siz r) (hs : Siz s) : cmpW (Lf r) (Lf s) 4 = if r < s then -1 else if s < r then 1 else 0 := by
  obtain ⟨h0, h1⟩ := hr; obtain ⟨h2, h3⟩ := hs
  have e : ∀ z : Int, 0 ≤ z → z ≤ 115792089237316195423570985008687907853269984665640564039457584007913129639935 → z = L0 z + 18446744073709551616 * L1 z + 340282366920938463463374607431768211456 * L2 z + 6277101735386680763835789423207666416102355444464034512896 * L3 z := fun z _ _ => by unfold L0 L1 L2 L3; omega
  have er := e r h0 h1; have es := e s h2 h3
  obtain ⟨a0, b0, a1, b1, a2, b2, a3, b3⟩ := W4.of r
  obtain ⟨c0, d0, c1, d1, c2, d2, c3, d3⟩ := W4.of s
  unfold cmpW cmpW cmpW cmpW cmpW Lf
  simp only []
  generalize L0 r = x0 at *; generalize L1 r = x1 at *; generalize L2 r = x2 at *; generalize L3 r = x3 at *
  generalize L0 s = y0 at *; generalize L1 s = y1 at *; generalize L2 s = y2 at *; generalize L3 s = y3 at *
  repeat' split
  all_goals first | rfl | omega
theorem eq_first (x0 x1 x2 x3 : Int) (w : World) : (Op.equalIn 10000 108 (.agg #[.int .u64 x0, .int .u64 x1, .int .u64 x2, .int .u64 x3]) (.agg #[.int .u64 x0, .int .u64 0, .int .u64 0, .int .u64 0])).run Try.prog w = .ok (decide (x1 = 0 ∧ x2 = 0 ∧ x3 = 0)) w := by
  rw [eq_size]; simp
end Go.Proofs.Ytdkmclaihojknaa
end
section
namespace Go.Proofs.Ytdkmclaihojknaa
open Go.ChangeShapes Go.WideShapes Go.ChangeAt Go.RowKit
set_option linter.unusedVariables false

end Go.Proofs.Ytdkmclaihojknaa
end
section
namespace Go.Proofs.Ytdkmclaihojknaa
open Go.ChangeShapes Go.WideShapes Go.ChangeAt Go.RowKit
set_option linter.unusedVariables false

theorem small_L {a : Int} (h : Siz a) (h1 : L1 a = 0) (h2 : L2 a = 0) (h3 : L3 a = 0) : L0 a = a ∧ a ≤ 18446744073709551615 := by
  obtain ⟨_, _⟩ := h
  unfold L0 L1 L2 L3 at *; omega
theorem L_small {a : Int} (h0 : 0 ≤ a) (h : a ≤ 18446744073709551615) : L0 a = a ∧ L1 a = 0 ∧ L2 a = 0 ∧ L3 a = 0 := by
  unfold L0 L1 L2 L3; omega
end Go.Proofs.Ytdkmclaihojknaa
end
