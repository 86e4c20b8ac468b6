/- -/
import Derived.Test.YthakafnecddliaaWideY
import Derived.Test.YthakafnecddliaaEq
import Derived.Test.YthakafnecddliaaMemoW
import Derived.Deep.LoopGhost
section
namespace Go.Proofs.Ythakafnecddliaa
open Go.ChangeShapes Go.WideShapes Go.ChangeAt Go.RowKit
set_option linter.unusedVariables false

/-- a wide.Int without its sign -/
theorem sizeOf_any (z : Int) (h : Fit z) (w : World) :
    Calls Try.prog 100 #[.agg #[.int .u64 (L0 z), .int .u64 (L1 z), .int .u64 (L2 z), .int .u64 (L3 z)]] w fun e w' => e = .returned (.agg #[.int .u64 (L0 (z.natAbs : Int)), .int .u64 (L1 (z.natAbs : Int)), .int .u64 (L2 (z.natAbs : Int)), .int .u64 (L3 (z.natAbs : Int))]) ∧ Bel w.heap.size w w' := by
  by_cases hz : z < 0
  · have hn : ngB z = true := by rw [ngB_fit h]; simpa using hz
    have e : (z.natAbs : Int) = 0 - z := by omega
    rw [e]
    have B1 := Lib.hid (fun w => below_is hn w)
    have M1 := Lib.hid (fun w => minus_any 0 z w)
    clear hn e hz
    generalize (0 : Int) - z = y at *
    generalize L0 z = x0 at *; generalize L1 z = x1 at *; generalize L2 z = x2 at *; generalize L3 z = x3 at *
    generalize L0 y = y0 at *; generalize L1 y = y1 at *; generalize L2 y = y2 at *; generalize L3 y = y3 at *
    go_enter Try.func100, Try.ntmps100
    go_wp2_with (first
      | (go_at_call 104; refine (B1.out _).mono ?_; rintro e w1 ⟨rfl, c, rfl⟩)
      | (go_at_call 107; refine (M1.out _).mono ?_; rintro e w1 ⟨rfl, c1, c2, c3, c4, n, rfl⟩))
    try simp only [setCell_drawn]
    refine bodyPost_ret (by simp [results, Try.results100, go_sem]) rfl ⟨rfl, ?_⟩
    repeat' (first | (with_reducible exact Bel.refl _ _) | (with_reducible assumption) | (with_reducible refine bel_drewN ?_ _) | (with_reducible refine Bel.drew ?_) | (with_reducible refine Bel.alloc ?_ ?_ _) | (with_reducible refine Bel.setCell ?_ ?_ _) | (with_reducible refine thenB ?_ (by with_reducible assumption) ?_) | (with_reducible exact Nat.le_refl _) | (with_reducible exact Nat.le_succ _) | (with_reducible exact Nat.le_succ_of_le (by with_reducible assumption)) | omega | (simp; done) | (simp; omega) | (exact Nat.le_succ _) | (exact Nat.le_succ_of_le (by with_reducible assumption)))
  · have hn : ngB z = false := by rw [ngB_fit h]; simpa using hz
    have e : (z.natAbs : Int) = z := by omega
    rw [e]
    have B1 := Lib.hid (fun w => below_is hn w)
    clear hn e hz
    generalize L0 z = x0 at *; generalize L1 z = x1 at *; generalize L2 z = x2 at *; generalize L3 z = x3 at *
    go_enter Try.func100, Try.ntmps100
    go_wp2_with (first
      | (go_at_call 104; refine (B1.out _).mono ?_; rintro e w1 ⟨rfl, c, rfl⟩))
    try simp only [setCell_drawn]
    refine bodyPost_ret (by simp [results, Try.results100, go_sem]) rfl ⟨rfl, ?_⟩
    repeat' (first | (with_reducible exact Bel.refl _ _) | (with_reducible assumption) | (with_reducible refine bel_drewN ?_ _) | (with_reducible refine Bel.drew ?_) | (with_reducible refine Bel.alloc ?_ ?_ _) | (with_reducible refine Bel.setCell ?_ ?_ _) | (with_reducible refine thenB ?_ (by with_reducible assumption) ?_) | (with_reducible exact Nat.le_refl _) | (with_reducible exact Nat.le_succ _) | (with_reducible exact Nat.le_succ_of_le (by with_reducible assumption)) | omega | (simp; done) | (simp; omega) | (exact Nat.le_succ _) | (exact Nat.le_succ_of_le (by with_reducible assumption)))
theorem fit0 : Fit 0 := ⟨by decide, by decide⟩
end Go.Proofs.Ythakafnecddliaa
end
section
namespace Go.Proofs.Ythakafnecddliaa
open Go.ChangeShapes Go.WideShapes Go.ChangeAt Go.RowKit
set_option linter.unusedVariables false

end Go.Proofs.Ythakafnecddliaa
end
section
namespace Go.Proofs.Ythakafnecddliaa
open Go.ChangeShapes Go.WideShapes Go.ChangeAt Go.RowKit
set_option linter.unusedVariables false

/-- -1, 0 or 1 -/
def sgnZ (z : Int) : Int := if z < 0 then -1 else if z = 0 then 0 else 1
set_option maxRecDepth 20000 in
theorem sign_any (z : Int) (h : Fit z) (w : World) :
    Calls Try.prog 98 #[.agg #[.int .u64 (L0 z), .int .u64 (L1 z), .int .u64 (L2 z), .int .u64 (L3 z)]] w fun e w' => e = .returned (.int .i64 (sgnZ z)) ∧ ∃ c d, w' = w.alloc (.cells c 140) ∨ w' = (w.alloc (.cells c 140)).alloc (.cells d 140) := by
  have EQ : ∀ w, (Op.equalIn 10000 140 (.agg #[.int .u64 (L0 z), .int .u64 (L1 z), .int .u64 (L2 z), .int .u64 (L3 z)]) (.agg #[.int .u64 0, .int .u64 0, .int .u64 0, .int .u64 0])).run Try.prog w = .ok (decide (z = 0)) w := fun w => eq_fit h fit0 w
  have hn := ngB_fit h
  by_cases h0 : z = 0
  · rw [decide_eq_true h0] at EQ
    have e : sgnZ z = 0 := by rw [h0]; rfl
    rw [e]
    clear h0 hn h e
    generalize L0 z = x0 at *; generalize L1 z = x1 at *; generalize L2 z = x2 at *; generalize L3 z = x3 at *
    go_enter Try.func98, Try.ntmps98
    go_wp2
    go_ret
    exact ⟨rfl, _, #[], .inl rfl⟩
  · rw [decide_eq_false h0] at EQ
    by_cases h1 : z < 0
    · have e : sgnZ z = -1 := by unfold sgnZ; rw [if_pos h1]
      rw [decide_eq_true h1] at hn
      have B := Lib.hid (fun w => below_is hn w)
      rw [e]
      clear h0 hn h e h1
      generalize L0 z = x0 at *; generalize L1 z = x1 at *; generalize L2 z = x2 at *; generalize L3 z = x3 at *
      go_enter Try.func98, Try.ntmps98
      go_wp2_with (go_at_call 104; refine (B.out _).mono ?_; rintro e w1 ⟨rfl, c, rfl⟩)
      go_ret
      exact ⟨rfl, _, _, .inr rfl⟩
    · have e : sgnZ z = 1 := by unfold sgnZ; rw [if_neg h1, if_neg h0]
      rw [decide_eq_false h1] at hn
      have B := Lib.hid (fun w => below_is hn w)
      rw [e]
      clear h0 hn h e h1
      generalize L0 z = x0 at *; generalize L1 z = x1 at *; generalize L2 z = x2 at *; generalize L3 z = x3 at *
      go_enter Try.func98, Try.ntmps98
      go_wp2_with (go_at_call 104; refine (B.out _).mono ?_; rintro e w1 ⟨rfl, c, rfl⟩)
      go_ret
      exact ⟨rfl, _, _, .inr rfl⟩
theorem sign_b (z : Int) (h : Fit z) (w : World) :
    Calls Try.prog 98 #[.agg #[.int .u64 (L0 z), .int .u64 (L1 z), .int .u64 (L2 z), .int .u64 (L3 z)]] w fun e w' => e = .returned (.int .i64 (sgnZ z)) ∧ Bel w.heap.size w w' :=
  (sign_any z h w).mono fun e w' ⟨he, c, d, hw⟩ => ⟨he, by rcases hw with hw | hw <;> rw [hw] <;> repeat' (first | (with_reducible exact Bel.refl _ _) | (with_reducible assumption) | (with_reducible refine bel_drewN ?_ _) | (with_reducible refine Bel.drew ?_) | (with_reducible refine Bel.alloc ?_ ?_ _) | (with_reducible refine Bel.setCell ?_ ?_ _) | (with_reducible refine thenB ?_ (by with_reducible assumption) ?_) | (with_reducible exact Nat.le_refl _) | (with_reducible exact Nat.le_succ _) | (with_reducible exact Nat.le_succ_of_le (by with_reducible assumption)) | omega | (simp; done) | (simp; omega) | (exact Nat.le_succ _) | (exact Nat.le_succ_of_le (by with_reducible assumption)))⟩

/-- which is greater -/
def cmpZ (a b : Int) : Int := if a < b then -1 else if b < a then 1 else 0
end Go.Proofs.Ythakafnecddliaa
end
section
namespace Go.Proofs.Ythakafnecddliaa
open Go.ChangeShapes Go.WideShapes Go.ChangeAt Go.RowKit
set_option linter.unusedVariables false
set_option linter.unusedSimpArgs false

theorem en_sizeOf : ∀ args w, (callFunc 100 args).run Try.prog w = .ok (.enter 100 args) w := enter_of Try.func100 rfl rfl
theorem abs_siz {a : Int} (ha : Fit a) : Siz (a.natAbs : Int) := by
  obtain ⟨_, _⟩ := ha
  exact ⟨by omega, by omega⟩
end Go.Proofs.Ythakafnecddliaa
end
section
namespace Go.Proofs.Ythakafnecddliaa
open Go.ChangeShapes Go.WideShapes Go.ChangeAt Go.RowKit
set_option linter.unusedVariables false

end Go.Proofs.Ythakafnecddliaa
end
