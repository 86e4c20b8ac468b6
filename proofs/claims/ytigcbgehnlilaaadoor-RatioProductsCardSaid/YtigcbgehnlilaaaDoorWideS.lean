/- merged: The contract of wide.up over words, by how many whole words are moved. Conditions: words; n not below 0. The contract of wide.down over words, by how many whole words are moved. Conditions: words; n not below 0. The contracts of wide.up and wide.down over numbers. Conditions: the number of places not below 0; down: a number that a size can be. -/
import Derived.Test.YtigcbgehnlilaaaDoorEq
import Derived.Test.YtigcbgehnlilaaaDoorNum
import Derived.WalkSpells
import Derived.Handy
import Derived.Deep.QuietTactic
import Derived.BigQuiet
import Derived.Test.YtigcbgehnlilaaaDoorDivM
section
namespace Go.Proofs.YtigcbgehnlilaaaDoor
open Go.ChangeShapes Go.WideShapes Go.ChangeAt Go.RowKit
set_option linter.unusedVariables false

/-- a word moved up, alone and with what comes in from the word below -/
def su (x r : Int) : Int := IntKind.u64.wrap (x * 2 ^ r.toNat)
def so (x y r : Int) : Int := bits .or .u64 (IntKind.u64.wrap (x * 2 ^ r.toNat)) (y / 2 ^ (64 - r).toNat)
set_option maxHeartbeats 1600000 in
set_option maxRecDepth 20000 in
theorem up_0 (x0 x1 x2 x3 : Int) (h : W4 x0 x1 x2 x3) (n r : Int) (hn : 0 ≤ n) (hn' : n ≤ 9223372036854775807) (hq : n / 64 = 0) (hr : n % 64 = r) (w : World) :
    Calls Tryd.prog 71 #[.agg #[.int .u64 x0, .int .u64 x1, .int .u64 x2, .int .u64 x3], .int .i64 n] w fun e w' => e = .returned (.agg #[.int .u64 (su x0 r), .int .u64 (so x1 x0 r), .int .u64 (so x2 x1 r), .int .u64 (so x3 x2 r)]) ∧ ∃ c1 c2 c3 m, w' = (((w.alloc (.cells c1 77)).alloc (.cells c2 77)).alloc (.cells c3 77)).drewN m := by
  obtain ⟨a0, b0, a1, b1, a2, b2, a3, b3⟩ := h
  have r0 : 0 ≤ r := by omega
  have r1 : r ≤ 63 := by omega
  go_enter Tryd.func71, Tryd.ntmps71
  go_wp2
  refine wp_loop_rounds 6 ?_
  rw [rounds_succ]
  go_wp2
  rw [rounds_succ]
  go_wp2
  go_region
  go_wp2
  rw [rounds_succ]
  go_wp2
  go_region
  go_wp2
  rw [rounds_succ]
  go_wp2
  go_region
  go_wp2
  rw [rounds_succ]
  go_wp2
  refine bodyPost_ret (by simp [results, Tryd.results71, go_sem, su, so]) rfl ⟨rfl, _, _, _, 3, rfl⟩
set_option maxHeartbeats 1600000 in
set_option maxRecDepth 20000 in
theorem up_1 (x0 x1 x2 x3 : Int) (h : W4 x0 x1 x2 x3) (n r : Int) (hn : 0 ≤ n) (hn' : n ≤ 9223372036854775807) (hq : n / 64 = 1) (hr : n % 64 = r) (w : World) :
    Calls Tryd.prog 71 #[.agg #[.int .u64 x0, .int .u64 x1, .int .u64 x2, .int .u64 x3], .int .i64 n] w fun e w' => e = .returned (.agg #[.int .u64 0, .int .u64 (su x0 r), .int .u64 (so x1 x0 r), .int .u64 (so x2 x1 r)]) ∧ ∃ c1 c2 c3 m, w' = (((w.alloc (.cells c1 77)).alloc (.cells c2 77)).alloc (.cells c3 77)).drewN m := by
  obtain ⟨a0, b0, a1, b1, a2, b2, a3, b3⟩ := h
  have r0 : 0 ≤ r := by omega
  have r1 : r ≤ 63 := by omega
  go_enter Tryd.func71, Tryd.ntmps71
  go_wp2
  refine wp_loop_rounds 6 ?_
  rw [rounds_succ]
  go_wp2
  rw [rounds_succ]
  go_wp2
  go_region
  go_wp2
  rw [rounds_succ]
  go_wp2
  go_region
  go_wp2
  rw [rounds_succ]
  go_wp2
  refine bodyPost_ret (by simp [results, Tryd.results71, go_sem, su, so]) rfl ⟨rfl, _, _, _, 2, rfl⟩
set_option maxHeartbeats 1600000 in
set_option maxRecDepth 20000 in
theorem up_2 (x0 x1 x2 x3 : Int) (h : W4 x0 x1 x2 x3) (n r : Int) (hn : 0 ≤ n) (hn' : n ≤ 9223372036854775807) (hq : n / 64 = 2) (hr : n % 64 = r) (w : World) :
    Calls Tryd.prog 71 #[.agg #[.int .u64 x0, .int .u64 x1, .int .u64 x2, .int .u64 x3], .int .i64 n] w fun e w' => e = .returned (.agg #[.int .u64 0, .int .u64 0, .int .u64 (su x0 r), .int .u64 (so x1 x0 r)]) ∧ ∃ c1 c2 c3 m, w' = (((w.alloc (.cells c1 77)).alloc (.cells c2 77)).alloc (.cells c3 77)).drewN m := by
  obtain ⟨a0, b0, a1, b1, a2, b2, a3, b3⟩ := h
  have r0 : 0 ≤ r := by omega
  have r1 : r ≤ 63 := by omega
  go_enter Tryd.func71, Tryd.ntmps71
  go_wp2
  refine wp_loop_rounds 6 ?_
  rw [rounds_succ]
  go_wp2
  rw [rounds_succ]
  go_wp2
  go_region
  go_wp2
  rw [rounds_succ]
  go_wp2
  refine bodyPost_ret (by simp [results, Tryd.results71, go_sem, su, so]) rfl ⟨rfl, _, _, _, 1, rfl⟩
set_option maxHeartbeats 1600000 in
set_option maxRecDepth 20000 in
theorem up_3 (x0 x1 x2 x3 : Int) (h : W4 x0 x1 x2 x3) (n r : Int) (hn : 0 ≤ n) (hn' : n ≤ 9223372036854775807) (hq : n / 64 = 3) (hr : n % 64 = r) (w : World) :
    Calls Tryd.prog 71 #[.agg #[.int .u64 x0, .int .u64 x1, .int .u64 x2, .int .u64 x3], .int .i64 n] w fun e w' => e = .returned (.agg #[.int .u64 0, .int .u64 0, .int .u64 0, .int .u64 (su x0 r)]) ∧ ∃ c1 c2 c3 m, w' = (((w.alloc (.cells c1 77)).alloc (.cells c2 77)).alloc (.cells c3 77)).drewN m := by
  obtain ⟨a0, b0, a1, b1, a2, b2, a3, b3⟩ := h
  have r0 : 0 ≤ r := by omega
  have r1 : r ≤ 63 := by omega
  go_enter Tryd.func71, Tryd.ntmps71
  go_wp2
  refine wp_loop_rounds 6 ?_
  rw [rounds_succ]
  go_wp2
  rw [rounds_succ]
  go_wp2
  refine bodyPost_ret (by simp [results, Tryd.results71, go_sem, su]) rfl ⟨rfl, _, _, _, 0, rfl⟩
set_option maxHeartbeats 1600000 in
set_option maxRecDepth 20000 in
theorem up_4 (x0 x1 x2 x3 : Int) (h : W4 x0 x1 x2 x3) (n r : Int) (hn : 0 ≤ n) (hn' : n ≤ 9223372036854775807) (hq : 4 ≤ n / 64) (hr : n % 64 = r) (w : World) :
    Calls Tryd.prog 71 #[.agg #[.int .u64 x0, .int .u64 x1, .int .u64 x2, .int .u64 x3], .int .i64 n] w fun e w' => e = .returned (.agg #[.int .u64 0, .int .u64 0, .int .u64 0, .int .u64 0]) ∧ ∃ c1 c2 c3 m, w' = (((w.alloc (.cells c1 77)).alloc (.cells c2 77)).alloc (.cells c3 77)).drewN m := by
  obtain ⟨a0, b0, a1, b1, a2, b2, a3, b3⟩ := h
  have r0 : 0 ≤ r := by omega
  have r1 : r ≤ 63 := by omega
  have d : decide (n / 64 < 4) = false := by simpa using hq
  go_enter Tryd.func71, Tryd.ntmps71
  go_wp2
  refine wp_loop_rounds 6 ?_
  rw [rounds_succ]
  go_wp2
  refine bodyPost_ret (by simp [results, Tryd.results71, go_sem]) rfl ⟨rfl, _, _, _, 0, rfl⟩
end Go.Proofs.YtigcbgehnlilaaaDoor
end
section
namespace Go.Proofs.YtigcbgehnlilaaaDoor
open Go.ChangeShapes Go.WideShapes Go.ChangeAt Go.RowKit
set_option linter.unusedVariables false

/-- a word moved down, alone and with what comes in from the word above -/
def sd (x r : Int) : Int := x / 2 ^ r.toNat
def sp (x y r : Int) : Int := bits .or .u64 (x / 2 ^ r.toNat) (IntKind.u64.wrap (y * 2 ^ (64 - r).toNat))
set_option maxHeartbeats 1600000 in
set_option maxRecDepth 20000 in
theorem down_0 (x0 x1 x2 x3 : Int) (h : W4 x0 x1 x2 x3) (n r : Int) (hn : 0 ≤ n) (hn' : n ≤ 9223372036854775807) (hq : n / 64 = 0) (hr : n % 64 = r) (w : World) :
    Calls Tryd.prog 72 #[.agg #[.int .u64 x0, .int .u64 x1, .int .u64 x2, .int .u64 x3], .int .i64 n] w fun e w' => e = .returned (.agg #[.int .u64 (sp x0 x1 r), .int .u64 (sp x1 x2 r), .int .u64 (sp x2 x3 r), .int .u64 (sd x3 r)]) ∧ ∃ c1 c2 c3 m, w' = (((w.alloc (.cells c1 77)).alloc (.cells c2 77)).alloc (.cells c3 77)).drewN m := by
  obtain ⟨a0, b0, a1, b1, a2, b2, a3, b3⟩ := h
  have r0 : 0 ≤ r := by omega
  have r1 : r ≤ 63 := by omega
  go_enter Tryd.func72, Tryd.ntmps72
  go_wp2
  refine wp_loop_rounds 6 ?_
  rw [rounds_succ]
  go_wp2
  go_region
  go_wp2
  rw [rounds_succ]
  go_wp2
  go_region
  go_wp2
  rw [rounds_succ]
  go_wp2
  go_region
  go_wp2
  rw [rounds_succ]
  go_wp2
  rw [rounds_succ]
  go_wp2
  refine bodyPost_ret (by simp [results, Tryd.results72, go_sem, sd, sp]) rfl ⟨rfl, _, _, _, 3, rfl⟩
set_option maxHeartbeats 1600000 in
set_option maxRecDepth 20000 in
theorem down_1 (x0 x1 x2 x3 : Int) (h : W4 x0 x1 x2 x3) (n r : Int) (hn : 0 ≤ n) (hn' : n ≤ 9223372036854775807) (hq : n / 64 = 1) (hr : n % 64 = r) (w : World) :
    Calls Tryd.prog 72 #[.agg #[.int .u64 x0, .int .u64 x1, .int .u64 x2, .int .u64 x3], .int .i64 n] w fun e w' => e = .returned (.agg #[.int .u64 (sp x1 x2 r), .int .u64 (sp x2 x3 r), .int .u64 (sd x3 r), .int .u64 0]) ∧ ∃ c1 c2 c3 m, w' = (((w.alloc (.cells c1 77)).alloc (.cells c2 77)).alloc (.cells c3 77)).drewN m := by
  obtain ⟨a0, b0, a1, b1, a2, b2, a3, b3⟩ := h
  have r0 : 0 ≤ r := by omega
  have r1 : r ≤ 63 := by omega
  go_enter Tryd.func72, Tryd.ntmps72
  go_wp2
  refine wp_loop_rounds 6 ?_
  rw [rounds_succ]
  go_wp2
  go_region
  go_wp2
  rw [rounds_succ]
  go_wp2
  go_region
  go_wp2
  rw [rounds_succ]
  go_wp2
  rw [rounds_succ]
  go_wp2
  refine bodyPost_ret (by simp [results, Tryd.results72, go_sem, sd, sp]) rfl ⟨rfl, _, _, _, 2, rfl⟩
set_option maxHeartbeats 1600000 in
set_option maxRecDepth 20000 in
theorem down_2 (x0 x1 x2 x3 : Int) (h : W4 x0 x1 x2 x3) (n r : Int) (hn : 0 ≤ n) (hn' : n ≤ 9223372036854775807) (hq : n / 64 = 2) (hr : n % 64 = r) (w : World) :
    Calls Tryd.prog 72 #[.agg #[.int .u64 x0, .int .u64 x1, .int .u64 x2, .int .u64 x3], .int .i64 n] w fun e w' => e = .returned (.agg #[.int .u64 (sp x2 x3 r), .int .u64 (sd x3 r), .int .u64 0, .int .u64 0]) ∧ ∃ c1 c2 c3 m, w' = (((w.alloc (.cells c1 77)).alloc (.cells c2 77)).alloc (.cells c3 77)).drewN m := by
  obtain ⟨a0, b0, a1, b1, a2, b2, a3, b3⟩ := h
  have r0 : 0 ≤ r := by omega
  have r1 : r ≤ 63 := by omega
  go_enter Tryd.func72, Tryd.ntmps72
  go_wp2
  refine wp_loop_rounds 6 ?_
  rw [rounds_succ]
  go_wp2
  go_region
  go_wp2
  rw [rounds_succ]
  go_wp2
  rw [rounds_succ]
  go_wp2
  refine bodyPost_ret (by simp [results, Tryd.results72, go_sem, sd, sp]) rfl ⟨rfl, _, _, _, 1, rfl⟩
set_option maxHeartbeats 1600000 in
set_option maxRecDepth 20000 in
theorem down_3 (x0 x1 x2 x3 : Int) (h : W4 x0 x1 x2 x3) (n r : Int) (hn : 0 ≤ n) (hn' : n ≤ 9223372036854775807) (hq : n / 64 = 3) (hr : n % 64 = r) (w : World) :
    Calls Tryd.prog 72 #[.agg #[.int .u64 x0, .int .u64 x1, .int .u64 x2, .int .u64 x3], .int .i64 n] w fun e w' => e = .returned (.agg #[.int .u64 (sd x3 r), .int .u64 0, .int .u64 0, .int .u64 0]) ∧ ∃ c1 c2 c3 m, w' = (((w.alloc (.cells c1 77)).alloc (.cells c2 77)).alloc (.cells c3 77)).drewN m := by
  obtain ⟨a0, b0, a1, b1, a2, b2, a3, b3⟩ := h
  have r0 : 0 ≤ r := by omega
  have r1 : r ≤ 63 := by omega
  go_enter Tryd.func72, Tryd.ntmps72
  go_wp2
  refine wp_loop_rounds 6 ?_
  rw [rounds_succ]
  go_wp2
  rw [rounds_succ]
  go_wp2
  refine bodyPost_ret (by simp [results, Tryd.results72, go_sem, sd]) rfl ⟨rfl, _, _, _, 0, rfl⟩
set_option maxHeartbeats 1600000 in
set_option maxRecDepth 20000 in
theorem down_4 (x0 x1 x2 x3 : Int) (h : W4 x0 x1 x2 x3) (n r : Int) (hn : 0 ≤ n) (hn' : n ≤ 9223372036854775807) (hq : 4 ≤ n / 64) (hr : n % 64 = r) (w : World) :
    Calls Tryd.prog 72 #[.agg #[.int .u64 x0, .int .u64 x1, .int .u64 x2, .int .u64 x3], .int .i64 n] w fun e w' => e = .returned (.agg #[.int .u64 0, .int .u64 0, .int .u64 0, .int .u64 0]) ∧ ∃ c1 c2 c3 m, w' = (((w.alloc (.cells c1 77)).alloc (.cells c2 77)).alloc (.cells c3 77)).drewN m := by
  obtain ⟨a0, b0, a1, b1, a2, b2, a3, b3⟩ := h
  have r0 : 0 ≤ r := by omega
  have r1 : r ≤ 63 := by omega
  have d : decide (n / 64 < 4) = false := by simpa using hq
  go_enter Tryd.func72, Tryd.ntmps72
  go_wp2
  refine wp_loop_rounds 6 ?_
  rw [rounds_succ]
  go_wp2
  refine bodyPost_ret (by simp [results, Tryd.results72, go_sem]) rfl ⟨rfl, _, _, _, 0, rfl⟩
end Go.Proofs.YtigcbgehnlilaaaDoor
end
section
namespace Go.Proofs.YtigcbgehnlilaaaDoor
open Go.ChangeShapes Go.WideShapes Go.ChangeAt Go.RowKit
set_option linter.unusedVariables false

theorem up_any (a n : Int) (hn : 0 ≤ n) (hn' : n ≤ 9223372036854775807) (w : World) :
    Calls Tryd.prog 71 #[.agg #[.int .u64 (L0 a), .int .u64 (L1 a), .int .u64 (L2 a), .int .u64 (L3 a)], .int .i64 n] w fun e w' => e = .returned (.agg #[.int .u64 (L0 (a * 2 ^ n.toNat)), .int .u64 (L1 (a * 2 ^ n.toNat)), .int .u64 (L2 (a * 2 ^ n.toNat)), .int .u64 (L3 (a * 2 ^ n.toNat))]) ∧ ∃ c1 c2 c3 m, w' = (((w.alloc (.cells c1 77)).alloc (.cells c2 77)).alloc (.cells c3 77)).drewN m := by
  obtain ⟨r, hr⟩ : ∃ r, n % 64 = r := ⟨_, rfl⟩
  have hrt : (r.toNat : Nat) ≤ 63 := by omega
  have h64 : (64 - r).toNat = 64 - r.toNat := by omega
  obtain ⟨u0, u1, u2, u3⟩ := L_up a r.toNat hrt
  rw [← h64] at u1 u2 u3
  by_cases h4 : 4 ≤ n / 64
  · have e : a * 2 ^ n.toNat = a * 2 ^ (n.toNat - 256) * 18446744073709551616 * 18446744073709551616 * 18446744073709551616 * 18446744073709551616 := by
      rw [pow_words n.toNat (n.toNat - 256) 4 (by omega), ← Int.mul_assoc]
      simp only [Int.pow_succ, Int.pow_zero, Int.one_mul, ← Int.mul_assoc]
    obtain ⟨p0, p1, p2, p3⟩ := L_word (a * 2 ^ (n.toNat - 256) * 18446744073709551616 * 18446744073709551616 * 18446744073709551616)
    obtain ⟨q0, q1, q2, q3⟩ := L_word (a * 2 ^ (n.toNat - 256) * 18446744073709551616 * 18446744073709551616)
    obtain ⟨s0, s1, s2, s3⟩ := L_word (a * 2 ^ (n.toNat - 256) * 18446744073709551616)
    obtain ⟨t0, t1, t2, t3⟩ := L_word (a * 2 ^ (n.toNat - 256))
    rw [e, p0, p1, p2, p3, q0, q1, q2, s0, s1, t0]
    exact up_4 _ _ _ _ (W4.of a) n r hn hn' h4 hr w
  · by_cases h3 : n / 64 = 3
    · have e : a * 2 ^ n.toNat = a * 2 ^ r.toNat * 18446744073709551616 * 18446744073709551616 * 18446744073709551616 := by
        rw [pow_words n.toNat r.toNat 3 (by omega), ← Int.mul_assoc]
        simp only [Int.pow_succ, Int.pow_zero, Int.one_mul, ← Int.mul_assoc]
      obtain ⟨p0, p1, p2, p3⟩ := L_word (a * 2 ^ r.toNat * 18446744073709551616 * 18446744073709551616)
      obtain ⟨q0, q1, q2, q3⟩ := L_word (a * 2 ^ r.toNat * 18446744073709551616)
      obtain ⟨s0, s1, s2, s3⟩ := L_word (a * 2 ^ r.toNat)
      rw [e, p0, p1, p2, p3, q0, q1, q2, s0, s1, ← u0]
      exact up_3 _ _ _ _ (W4.of a) n r hn hn' h3 hr w
    · by_cases h2 : n / 64 = 2
      · have e : a * 2 ^ n.toNat = a * 2 ^ r.toNat * 18446744073709551616 * 18446744073709551616 := by
          rw [pow_words n.toNat r.toNat 2 (by omega), ← Int.mul_assoc]
          simp only [Int.pow_succ, Int.pow_zero, Int.one_mul, ← Int.mul_assoc]
        obtain ⟨p0, p1, p2, p3⟩ := L_word (a * 2 ^ r.toNat * 18446744073709551616)
        obtain ⟨q0, q1, q2, q3⟩ := L_word (a * 2 ^ r.toNat)
        rw [e, p0, p1, p2, p3, q0, q1, q2, ← u0, ← u1]
        exact up_2 _ _ _ _ (W4.of a) n r hn hn' h2 hr w
      · by_cases h1 : n / 64 = 1
        · have e : a * 2 ^ n.toNat = a * 2 ^ r.toNat * 18446744073709551616 := by
            rw [pow_words n.toNat r.toNat 1 (by omega), ← Int.mul_assoc]
            simp only [Int.pow_succ, Int.pow_zero, Int.one_mul]
          obtain ⟨p0, p1, p2, p3⟩ := L_word (a * 2 ^ r.toNat)
          rw [e, p0, p1, p2, p3, ← u0, ← u1, ← u2]
          exact up_1 _ _ _ _ (W4.of a) n r hn hn' h1 hr w
        · have e : n.toNat = r.toNat := by omega
          rw [e, ← u0, ← u1, ← u2, ← u3]
          exact up_0 _ _ _ _ (W4.of a) n r hn hn' (by omega) hr w

theorem div_words (a n r : Int) (k : Nat) (h : n.toNat = r.toNat + 64 * k) : a / 2 ^ n.toNat = a / 18446744073709551616 ^ k / 2 ^ r.toNat := by
  rw [pow_words n.toNat r.toNat k h, Int.mul_comm, ← ediv2 a _ (Int.le_of_lt (Int.pow_pos (by decide)))]
theorem down_any (a n : Int) (h : Siz a) (hn : 0 ≤ n) (hn' : n ≤ 9223372036854775807) (w : World) :
    Calls Tryd.prog 72 #[.agg #[.int .u64 (L0 a), .int .u64 (L1 a), .int .u64 (L2 a), .int .u64 (L3 a)], .int .i64 n] w fun e w' => e = .returned (.agg #[.int .u64 (L0 (a / 2 ^ n.toNat)), .int .u64 (L1 (a / 2 ^ n.toNat)), .int .u64 (L2 (a / 2 ^ n.toNat)), .int .u64 (L3 (a / 2 ^ n.toNat))]) ∧ ∃ c1 c2 c3 m, w' = (((w.alloc (.cells c1 77)).alloc (.cells c2 77)).alloc (.cells c3 77)).drewN m := by
  obtain ⟨r, hr⟩ : ∃ r, n % 64 = r := ⟨_, rfl⟩
  have hrt : (r.toNat : Nat) ≤ 63 := by omega
  have h64 : (64 - r).toNat = 64 - r.toNat := by omega
  have B1 : Siz (a / 18446744073709551616) := h.div (by decide)
  have B2 : Siz (a / 18446744073709551616 / 18446744073709551616) := B1.div (by decide)
  have B3 : Siz (a / 18446744073709551616 / 18446744073709551616 / 18446744073709551616) := B2.div (by decide)
  have z : ∀ r : Nat, (0 : Int) / 2 ^ r = 0 := fun r => Int.zero_ediv _
  have zw : ∀ r : Nat, IntKind.u64.wrap (0 * 2 ^ (64 - r)) = 0 := fun r => by rw [Int.zero_mul]; rfl
  obtain ⟨p0, p1, p2, p3⟩ := L_drop a h
  obtain ⟨q0, q1, q2, q3⟩ := L_drop _ B1
  obtain ⟨s0, s1, s2, s3⟩ := L_drop _ B2
  have o0 : ∀ (x : Int), 0 ≤ x → x ≤ 18446744073709551615 → bits .or .u64 (x / 2 ^ r.toNat) 0 = x / 2 ^ r.toNat := fun x h0 h1 => by
    have := or_dn x 0 r.toNat hrt h0 h1
    rw [zw, Int.zero_mul] at this
    simpa using this
  have o1 : bits .or .u64 0 0 = 0 := rfl
  obtain ⟨w0, w0', w1, w1', w2, w2', w3, w3'⟩ := W4.of a
  by_cases h4 : 4 ≤ n / 64
  · have e : a / 2 ^ n.toNat = 0 := h.small n.toNat (by omega)
    rw [e]
    exact down_4 _ _ _ _ (W4.of a) n r hn hn' h4 hr w
  · by_cases h3 : n / 64 = 3
    · have e := div_words a n r 3 (by omega)
      rw [show (18446744073709551616 : Int) ^ 3 = 18446744073709551616 * 18446744073709551616 * 18446744073709551616 from rfl, ← ediv2 a _ (by decide), ← ediv2 a _ (by decide)] at e
      obtain ⟨u0, u1, u2, u3⟩ := L_dn _ B3 r.toNat hrt
      simp only [p2, p3, q1, q2, q3, s0, s1, s2, s3, z, zw, o1, o0 _ w3 w3'] at u0 u1 u2 u3
      rw [e, ← u0, ← u1, ← u2, ← u3]
      exact down_3 _ _ _ _ (W4.of a) n r hn hn' h3 hr w
    · by_cases h2 : n / 64 = 2
      · have e := div_words a n r 2 (by omega)
        rw [show (18446744073709551616 : Int) ^ 2 = 18446744073709551616 * 18446744073709551616 from rfl, ← ediv2 a _ (by decide)] at e
        obtain ⟨u0, u1, u2, u3⟩ := L_dn _ B2 r.toNat hrt
        simp only [p1, p2, p3, q0, q1, q2, q3, z, zw, o1, o0 _ w3 w3'] at u0 u1 u2 u3
        rw [e, ← u0, ← u1, ← u2, ← u3, ← h64]
        exact down_2 _ _ _ _ (W4.of a) n r hn hn' h2 hr w
      · by_cases h1 : n / 64 = 1
        · have e := div_words a n r 1 (by omega)
          rw [show (18446744073709551616 : Int) ^ 1 = 18446744073709551616 from rfl] at e
          obtain ⟨u0, u1, u2, u3⟩ := L_dn _ B1 r.toNat hrt
          simp only [p0, p1, p2, p3, z, zw, o0 _ w3 w3'] at u0 u1 u2 u3
          rw [e, ← u0, ← u1, ← u2, ← u3, ← h64]
          exact down_1 _ _ _ _ (W4.of a) n r hn hn' h1 hr w
        · have e : n.toNat = r.toNat := by omega
          obtain ⟨u0, u1, u2, u3⟩ := L_dn a h r.toNat hrt
          rw [e, ← u0, ← u1, ← u2, ← u3, ← h64]
          exact down_0 _ _ _ _ (W4.of a) n r hn hn' (by omega) hr w
end Go.Proofs.YtigcbgehnlilaaaDoor
end
