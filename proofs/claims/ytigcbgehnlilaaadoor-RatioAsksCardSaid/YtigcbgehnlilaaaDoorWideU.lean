
/- The contract of wide.up over words, by how many whole words are moved. Conditions: words; n not below 0. -/
import Derived.Test.YtigcbgehnlilaaaDoorEq
import Derived.Test.YtigcbgehnlilaaaDoorNum
import Derived.WalkSpells
import Derived.Handy
import Derived.Deep.QuietTactic
import Derived.BigQuiet
namespace Go.Proofs.YtigcbgehnlilaaaDoor
open Go.ChangeShapes Go.WideShapes Go.ChangeAt Go.RowKit
set_option linter.unusedVariables false

/-- a word moved up, alone and with what comes in from the word below -/
def su (x r : Int) : Int := IntKind.u64.wrap (x * 2 ^ r.toNat)
def so (x y r : Int) : Int := bits .or .u64 (IntKind.u64.wrap (x * 2 ^ r.toNat)) (y / 2 ^ (64 - r).toNat)
set_option maxHeartbeats 1600000 in
set_option maxRecDepth 20000 in
theorem up_0 (x0 x1 x2 x3 : Int) (h : W4 x0 x1 x2 x3) (n r : Int) (hn : 0 ≤ n) (hn' : n ≤ 9223372036854775807) (hq : n / 64 = 0) (hr : n % 64 = r) (w : World) :
    Calls Tryd.prog 71 #[.agg #[.int .u64 x0, .int .u64 x1, .int .u64 x2, .int .u64 x3], .int .i64 n] w fun e w' => e = .returned (.agg #[.int .u64 (su x0 r), .int .u64 (so x1 x0 r), .int .u64 (so x2 x1 r), .int .u64 (so x3 x2 r)]) ∧ ∃ c1 c2 c3 m, w' = (((w.alloc (.cells c1 77)).alloc (.cells c2 77)).alloc (.cells c3 77)).drewN m := by
  obtain ⟨a0, b0, a1, b1, a2, b2, a3, b3⟩ := h
  have r0 : 0 ≤ r := by omega
  have r1 : r ≤ 63 := by omega
  go_enter Tryd.func71, Tryd.ntmps71
  go_wp2
  refine wp_loop_rounds 6 ?_
  rw [rounds_succ]
  go_wp2
  rw [rounds_succ]
  go_wp2
  go_region
  go_wp2
  rw [rounds_succ]
  go_wp2
  go_region
  go_wp2
  rw [rounds_succ]
  go_wp2
  go_region
  go_wp2
  rw [rounds_succ]
  go_wp2
  refine bodyPost_ret (by simp [results, Tryd.results71, go_sem, su, so]) rfl ⟨rfl, _, _, _, 3, rfl⟩
set_option maxHeartbeats 1600000 in
set_option maxRecDepth 20000 in
theorem up_1 (x0 x1 x2 x3 : Int) (h : W4 x0 x1 x2 x3) (n r : Int) (hn : 0 ≤ n) (hn' : n ≤ 9223372036854775807) (hq : n / 64 = 1) (hr : n % 64 = r) (w : World) :
    Calls Tryd.prog 71 #[.agg #[.int .u64 x0, .int .u64 x1, .int .u64 x2, .int .u64 x3], .int .i64 n] w fun e w' => e = .returned (.agg #[.int .u64 0, .int .u64 (su x0 r), .int .u64 (so x1 x0 r), .int .u64 (so x2 x1 r)]) ∧ ∃ c1 c2 c3 m, w' = (((w.alloc (.cells c1 77)).alloc (.cells c2 77)).alloc (.cells c3 77)).drewN m := by
  obtain ⟨a0, b0, a1, b1, a2, b2, a3, b3⟩ := h
  have r0 : 0 ≤ r := by omega
  have r1 : r ≤ 63 := by omega
  go_enter Tryd.func71, Tryd.ntmps71
  go_wp2
  refine wp_loop_rounds 6 ?_
  rw [rounds_succ]
  go_wp2
  rw [rounds_succ]
  go_wp2
  go_region
  go_wp2
  rw [rounds_succ]
  go_wp2
  go_region
  go_wp2
  rw [rounds_succ]
  go_wp2
  refine bodyPost_ret (by simp [results, Tryd.results71, go_sem, su, so]) rfl ⟨rfl, _, _, _, 2, rfl⟩
set_option maxHeartbeats 1600000 in
set_option maxRecDepth 20000 in
theorem up_2 (x0 x1 x2 x3 : Int) (h : W4 x0 x1 x2 x3) (n r : Int) (hn : 0 ≤ n) (hn' : n ≤ 9223372036854775807) (hq : n / 64 = 2) (hr : n % 64 = r) (w : World) :
    Calls Tryd.prog 71 #[.agg #[.int .u64 x0, .int .u64 x1, .int .u64 x2, .int .u64 x3], .int .i64 n] w fun e w' => e = .returned (.agg #[.int .u64 0, .int .u64 0, .int .u64 (su x0 r), .int .u64 (so x1 x0 r)]) ∧ ∃ c1 c2 c3 m, w' = (((w.alloc (.cells c1 77)).alloc (.cells c2 77)).alloc (.cells c3 77)).drewN m := by
  obtain ⟨a0, b0, a1, b1, a2, b2, a3, b3⟩ := h
  have r0 : 0 ≤ r := by omega
  have r1 : r ≤ 63 := by omega
  go_enter Tryd.func71, Tryd.ntmps71
  go_wp2
  refine wp_loop_rounds 6 ?_
  rw [rounds_succ]
  go_wp2
  rw [rounds_succ]
  go_wp2
  go_region
  go_wp2
  rw [rounds_succ]
  go_wp2
  refine bodyPost_ret (by simp [results, Tryd.results71, go_sem, su, so]) rfl ⟨rfl, _, _, _, 1, rfl⟩
set_option maxHeartbeats 1600000 in
set_option maxRecDepth 20000 in
theorem up_3 (x0 x1 x2 x3 : Int) (h : W4 x0 x1 x2 x3) (n r : Int) (hn : 0 ≤ n) (hn' : n ≤ 9223372036854775807) (hq : n / 64 = 3) (hr : n % 64 = r) (w : World) :
    Calls Tryd.prog 71 #[.agg #[.int .u64 x0, .int .u64 x1, .int .u64 x2, .int .u64 x3], .int .i64 n] w fun e w' => e = .returned (.agg #[.int .u64 0, .int .u64 0, .int .u64 0, .int .u64 (su x0 r)]) ∧ ∃ c1 c2 c3 m, w' = (((w.alloc (.cells c1 77)).alloc (.cells c2 77)).alloc (.cells c3 77)).drewN m := by
  obtain ⟨a0, b0, a1, b1, a2, b2, a3, b3⟩ := h
  have r0 : 0 ≤ r := by omega
  have r1 : r ≤ 63 := by omega
  go_enter Tryd.func71, Tryd.ntmps71
  go_wp2
  refine wp_loop_rounds 6 ?_
  rw [rounds_succ]
  go_wp2
  rw [rounds_succ]
  go_wp2
  refine bodyPost_ret (by simp [results, Tryd.results71, go_sem, su]) rfl ⟨rfl, _, _, _, 0, rfl⟩
set_option maxHeartbeats 1600000 in
set_option maxRecDepth 20000 in
theorem up_4 (x0 x1 x2 x3 : Int) (h : W4 x0 x1 x2 x3) (n r : Int) (hn : 0 ≤ n) (hn' : n ≤ 9223372036854775807) (hq : 4 ≤ n / 64) (hr : n % 64 = r) (w : World) :
    Calls Tryd.prog 71 #[.agg #[.int .u64 x0, .int .u64 x1, .int .u64 x2, .int .u64 x3], .int .i64 n] w fun e w' => e = .returned (.agg #[.int .u64 0, .int .u64 0, .int .u64 0, .int .u64 0]) ∧ ∃ c1 c2 c3 m, w' = (((w.alloc (.cells c1 77)).alloc (.cells c2 77)).alloc (.cells c3 77)).drewN m := by
  obtain ⟨a0, b0, a1, b1, a2, b2, a3, b3⟩ := h
  have r0 : 0 ≤ r := by omega
  have r1 : r ≤ 63 := by omega
  have d : decide (n / 64 < 4) = false := by simpa using hq
  go_enter Tryd.func71, Tryd.ntmps71
  go_wp2
  refine wp_loop_rounds 6 ?_
  rw [rounds_succ]
  go_wp2
  refine bodyPost_ret (by simp [results, Tryd.results71, go_sem]) rfl ⟨rfl, _, _, _, 0, rfl⟩
end Go.Proofs.YtigcbgehnlilaaaDoor
