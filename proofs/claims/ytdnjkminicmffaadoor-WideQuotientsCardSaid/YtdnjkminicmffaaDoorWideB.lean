
/- The contracts of wide.below, plus, minus over numbers. No condition. -/
import Derived.Test.YtdnjkminicmffaaDoorWideM
import Derived.Test.YtdnjkminicmffaaDoorArr
namespace Go.Proofs.YtdnjkminicmffaaDoor
open Go.ChangeShapes Go.WideShapes Go.ChangeAt Go.RowKit Go.Shelf
set_option linter.unusedVariables false

theorem below_any (z : Int) (w : World) :
    Calls Tryd.prog 35 #[.agg #[.int .u64 (L0 z), .int .u64 (L1 z), .int .u64 (L2 z), .int .u64 (L3 z)]] w fun e w' => e = .returned (.bool (ngB z)) ∧ ∃ c, w' = w.alloc (.cells c 24) := below_gen _ _ _ _ (W4.of z) w
theorem below_is {z : Int} {s : Bool} (h : ngB z = s) (w : World) :
    Calls Tryd.prog 35 #[.agg #[.int .u64 (L0 z), .int .u64 (L1 z), .int .u64 (L2 z), .int .u64 (L3 z)]] w fun e w' => e = .returned (.bool s) ∧ ∃ c, w' = w.alloc (.cells c 24) := h ▸ below_any z w
theorem plus_any (a b : Int) (w : World) :
    Calls Tryd.prog 34 #[.agg #[.int .u64 (L0 a), .int .u64 (L1 a), .int .u64 (L2 a), .int .u64 (L3 a)], .agg #[.int .u64 (L0 b), .int .u64 (L1 b), .int .u64 (L2 b), .int .u64 (L3 b)]] w fun e w' => e = .returned (.agg #[.int .u64 (L0 (a + b)), .int .u64 (L1 (a + b)), .int .u64 (L2 (a + b)), .int .u64 (L3 (a + b))]) ∧ ∃ c1 c2 c3 c4 n, w' = ((((w.alloc (.cells c1 55)).alloc (.cells c2 55)).alloc (.cells c3 55)).alloc (.cells c4 55)).drewN n := by
  obtain ⟨h0, h1, h2, h3⟩ := L_add (a := a) (b := b) ⟨rfl, rfl, rfl, rfl⟩ ⟨rfl, rfl, rfl, rfl⟩
  rw [← h0, ← h1, ← h2, ← h3]
  exact plus_gen _ _ _ _ _ _ _ _ (W4.of a) (W4.of b) w
theorem minus_any (a b : Int) (w : World) :
    Calls Tryd.prog 36 #[.agg #[.int .u64 (L0 a), .int .u64 (L1 a), .int .u64 (L2 a), .int .u64 (L3 a)], .agg #[.int .u64 (L0 b), .int .u64 (L1 b), .int .u64 (L2 b), .int .u64 (L3 b)]] w fun e w' => e = .returned (.agg #[.int .u64 (L0 (a - b)), .int .u64 (L1 (a - b)), .int .u64 (L2 (a - b)), .int .u64 (L3 (a - b))]) ∧ ∃ c1 c2 c3 c4 n, w' = ((((w.alloc (.cells c1 55)).alloc (.cells c2 55)).alloc (.cells c3 55)).alloc (.cells c4 55)).drewN n := by
  obtain ⟨h0, h1, h2, h3⟩ := L_sub (a := a) (b := b) ⟨rfl, rfl, rfl, rfl⟩ ⟨rfl, rfl, rfl, rfl⟩
  rw [← h0, ← h1, ← h2, ← h3]
  exact minus_gen _ _ _ _ _ _ _ _ (W4.of a) (W4.of b) w
end Go.Proofs.YtdnjkminicmffaaDoor
