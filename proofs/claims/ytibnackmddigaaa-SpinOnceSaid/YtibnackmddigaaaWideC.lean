/- merged: What '==' says of two arrays of four words. No condition. The contracts of wide.below, plus, minus over numbers. No condition. The contracts of wide.sizeOf, signed, Sign. Conditions: numbers that can be. -/
import Derived.Test.YtibnackmddigaaaWideA
import Derived.Test.YtibnackmddigaaaNum
import Derived.Laws.StructEq
import Derived.Laws.Tables
import Derived.Laws.Cover2
import Derived.KernelRfl
import Derived.Test.YtibnackmddigaaaWideM
section
namespace Go.Proofs.Ytibnackmddigaaa
open Go.ChangeShapes Go.WideShapes Go.ChangeAt Go.RowKit
set_option linter.unusedVariables false

theorem eq_Int (x0 x1 x2 x3 : Int) (y0 y1 y2 y3 : Int) (w : World) : (Op.equalIn 10000 61 (.agg #[.int .u64 x0, .int .u64 x1, .int .u64 x2, .int .u64 x3]) (.agg #[.int .u64 y0, .int .u64 y1, .int .u64 y2, .int .u64 y3])).run Try.prog w = .ok (decide (x0 = y0 ∧ x1 = y1 ∧ x2 = y2 ∧ x3 = y3)) w := by
  have u3 := Try.underlying59
  have a3 := Try.isAgg59
  have z3 := Try.sizeOf59
  rw [show (10000 : Nat) = 9999 + 1 from rfl, Op.equalIn]
  simp only [Sem.run_bind, run_underlying Try.underlying61, Result.andThen_ok]
  simp only [Std.Legacy.Range.forIn_eq_forIn_range', Std.Legacy.Range.size, Nat.sub_zero, Nat.add_sub_cancel, Nat.div_one, List.range'_succ, List.range'_zero, List.forIn_cons, List.forIn_nil]
  go_simp
  by_cases h0 : x0 = y0 <;> by_cases h1 : x1 = y1 <;> by_cases h2 : x2 = y2 <;> by_cases h3 : x3 = y3 <;> simp [h0, h1, h2, h3]
theorem dec_fit {a b : Int} (ha : Fit a) (hb : Fit b) : decide (L0 a = L0 b ∧ L1 a = L1 b ∧ L2 a = L2 b ∧ L3 a = L3 b) = decide (a = b) := by
  by_cases h : a = b
  · simp [h]
  · have : ¬ (L0 a = L0 b ∧ L1 a = L1 b ∧ L2 a = L2 b ∧ L3 a = L3 b) := fun ⟨h0, h1, h2, h3⟩ => h (ha.inj hb h0 h1 h2 h3)
    simp only [this, h]
theorem eq_fit {a b : Int} (ha : Fit a) (hb : Fit b) (w : World) : (Op.equalIn 10000 61 (.agg #[.int .u64 (L0 a), .int .u64 (L1 a), .int .u64 (L2 a), .int .u64 (L3 a)]) (.agg #[.int .u64 (L0 b), .int .u64 (L1 b), .int .u64 (L2 b), .int .u64 (L3 b)])).run Try.prog w = .ok (decide (a = b)) w := by
  rw [eq_Int, dec_fit ha hb]
end Go.Proofs.Ytibnackmddigaaa
end
section
namespace Go.Proofs.Ytibnackmddigaaa
open Go.ChangeShapes Go.WideShapes Go.ChangeAt Go.RowKit Go.Shelf
set_option linter.unusedVariables false

theorem below_any (z : Int) (w : World) :
    Calls Try.prog 52 #[.agg #[.int .u64 (L0 z), .int .u64 (L1 z), .int .u64 (L2 z), .int .u64 (L3 z)]] w fun e w' => e = .returned (.bool (ngB z)) ∧ ∃ c, w' = w.alloc (.cells c 61) := below_gen _ _ _ _ (W4.of z) w
theorem below_is {z : Int} {s : Bool} (h : ngB z = s) (w : World) :
    Calls Try.prog 52 #[.agg #[.int .u64 (L0 z), .int .u64 (L1 z), .int .u64 (L2 z), .int .u64 (L3 z)]] w fun e w' => e = .returned (.bool s) ∧ ∃ c, w' = w.alloc (.cells c 61) := h ▸ below_any z w
theorem minus_any (a b : Int) (w : World) :
    Calls Try.prog 125 #[.agg #[.int .u64 (L0 a), .int .u64 (L1 a), .int .u64 (L2 a), .int .u64 (L3 a)], .agg #[.int .u64 (L0 b), .int .u64 (L1 b), .int .u64 (L2 b), .int .u64 (L3 b)]] w fun e w' => e = .returned (.agg #[.int .u64 (L0 (a - b)), .int .u64 (L1 (a - b)), .int .u64 (L2 (a - b)), .int .u64 (L3 (a - b))]) ∧ ∃ c1 c2 c3 c4 n, w' = ((((w.alloc (.cells c1 113)).alloc (.cells c2 113)).alloc (.cells c3 113)).alloc (.cells c4 113)).drewN n := by
  obtain ⟨h0, h1, h2, h3⟩ := L_sub (a := a) (b := b) ⟨rfl, rfl, rfl, rfl⟩ ⟨rfl, rfl, rfl, rfl⟩
  rw [← h0, ← h1, ← h2, ← h3]
  exact minus_gen _ _ _ _ _ _ _ _ (W4.of a) (W4.of b) w
end Go.Proofs.Ytibnackmddigaaa
end
section
namespace Go.Proofs.Ytibnackmddigaaa
open Go.ChangeShapes Go.WideShapes Go.ChangeAt Go.RowKit
set_option linter.unusedVariables false

/-- a wide.Int without its sign -/
theorem sizeOf_any (z : Int) (h : Fit z) (w : World) :
    Calls Try.prog 122 #[.agg #[.int .u64 (L0 z), .int .u64 (L1 z), .int .u64 (L2 z), .int .u64 (L3 z)]] w fun e w' => e = .returned (.agg #[.int .u64 (L0 (z.natAbs : Int)), .int .u64 (L1 (z.natAbs : Int)), .int .u64 (L2 (z.natAbs : Int)), .int .u64 (L3 (z.natAbs : Int))]) ∧ Bel w.heap.size w w' := by
  by_cases hz : z < 0
  · have hn : ngB z = true := by rw [ngB_fit h]; simpa using hz
    have e : (z.natAbs : Int) = 0 - z := by omega
    rw [e]
    have B1 := Lib.hid (fun w => below_is hn w)
    have M1 := Lib.hid (fun w => minus_any 0 z w)
    clear hn e hz
    generalize (0 : Int) - z = y at *
    generalize L0 z = x0 at *; generalize L1 z = x1 at *; generalize L2 z = x2 at *; generalize L3 z = x3 at *
    generalize L0 y = y0 at *; generalize L1 y = y1 at *; generalize L2 y = y2 at *; generalize L3 y = y3 at *
    go_enter Try.func122, Try.ntmps122
    go_wp2_with (first
      | (go_at_call 52; refine (B1.out _).mono ?_; rintro e w1 ⟨rfl, c, rfl⟩)
      | (go_at_call 125; refine (M1.out _).mono ?_; rintro e w1 ⟨rfl, c1, c2, c3, c4, n, rfl⟩))
    try simp only [setCell_drawn]
    refine bodyPost_ret (by simp [results, Try.results122, go_sem]) rfl ⟨rfl, ?_⟩
    repeat' (first | (with_reducible exact Bel.refl _ _) | (with_reducible assumption) | (with_reducible refine bel_drewN ?_ _) | (with_reducible refine Bel.drew ?_) | (with_reducible refine Bel.alloc ?_ ?_ _) | (with_reducible refine Bel.setCell ?_ ?_ _) | (with_reducible refine thenB ?_ (by with_reducible assumption) ?_) | (with_reducible exact Nat.le_refl _) | (with_reducible exact Nat.le_succ _) | (with_reducible exact Nat.le_succ_of_le (by with_reducible assumption)) | omega | (simp; done) | (simp; omega) | (exact Nat.le_succ _) | (exact Nat.le_succ_of_le (by with_reducible assumption)))
  · have hn : ngB z = false := by rw [ngB_fit h]; simpa using hz
    have e : (z.natAbs : Int) = z := by omega
    rw [e]
    have B1 := Lib.hid (fun w => below_is hn w)
    clear hn e hz
    generalize L0 z = x0 at *; generalize L1 z = x1 at *; generalize L2 z = x2 at *; generalize L3 z = x3 at *
    go_enter Try.func122, Try.ntmps122
    go_wp2_with (first
      | (go_at_call 52; refine (B1.out _).mono ?_; rintro e w1 ⟨rfl, c, rfl⟩))
    try simp only [setCell_drawn]
    refine bodyPost_ret (by simp [results, Try.results122, go_sem]) rfl ⟨rfl, ?_⟩
    repeat' (first | (with_reducible exact Bel.refl _ _) | (with_reducible assumption) | (with_reducible refine bel_drewN ?_ _) | (with_reducible refine Bel.drew ?_) | (with_reducible refine Bel.alloc ?_ ?_ _) | (with_reducible refine Bel.setCell ?_ ?_ _) | (with_reducible refine thenB ?_ (by with_reducible assumption) ?_) | (with_reducible exact Nat.le_refl _) | (with_reducible exact Nat.le_succ _) | (with_reducible exact Nat.le_succ_of_le (by with_reducible assumption)) | omega | (simp; done) | (simp; omega) | (exact Nat.le_succ _) | (exact Nat.le_succ_of_le (by with_reducible assumption)))
theorem fit0 : Fit 0 := ⟨by decide, by decide⟩
end Go.Proofs.Ytibnackmddigaaa
end
