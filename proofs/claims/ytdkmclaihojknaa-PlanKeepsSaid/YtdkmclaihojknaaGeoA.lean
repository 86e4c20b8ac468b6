/- merged: The contracts of wide.Shr, Small. Conditions: numbers that a wide.Int can be. What '==' says of two points and of two fractions; the contracts of the small functions of geom: In, Less, late, gap. Conditions: coordinates that an int can be. -/
import Derived.Test.YtdkmclaihojknaaWideQ
import Derived.Test.YtdkmclaihojknaaMemoW
import Derived.Test.YtdkmclaihojknaaGeoN
import Derived.Test.YtdkmclaihojknaaRatM
section
namespace Go.Proofs.Ytdkmclaihojknaa
open Go.ChangeShapes Go.WideShapes Go.ChangeAt Go.RowKit
set_option linter.unusedVariables false

theorem floor_neg (a p : Int) (hp : 0 < p) : -((-a - 1) / p) - 1 = a / p := by
  have e1 := Int.mul_ediv_add_emod a p
  have m0 := Int.emod_nonneg a (show p ≠ 0 by omega)
  have m1 := Int.emod_lt_of_pos a hp
  have e2 : -a - 1 = (p - 1 - a % p) + p * (-(a / p) - 1) := by
    rw [Int.mul_sub, Int.mul_neg, Int.mul_one]; omega
  rw [e2, Int.add_mul_ediv_left _ _ (by omega), Int.ediv_eq_zero_of_lt (by omega) (by omega)]
  omega
/-- the greatest whole number not above a through 2^n -/
def shrZ (a n : Int) : Int := if n < 0 then a else a / 2 ^ n.toNat
theorem tupb_eq {a b : Int} {s : Bool} (h : a = b) : Ending.returned (.tuple #[.int .i64 a, .bool s]) = .returned (.tuple #[.int .i64 b, .bool s]) := by rw [h]
theorem Fit.of64 {n : Int} (h0 : -9223372036854775808 ≤ n) (h1 : n ≤ 9223372036854775807) : Fit n := ⟨by omega, by omega⟩
/-- an int64 with the lowest word -/
def lowZ (a : Int) : Int := wrap64 (L0 a)
theorem lowZ_range (a : Int) : -9223372036854775808 ≤ lowZ a ∧ lowZ a ≤ 9223372036854775807 := by
  unfold lowZ wrap64; omega
theorem lowZ_same {n : Int} (h0 : -9223372036854775808 ≤ n) (h1 : n ≤ 9223372036854775807) : lowZ n = n := by
  unfold lowZ L0 wrap64; omega
theorem of_b (n : Int) (h0 : -9223372036854775808 ≤ n) (h1 : n ≤ 9223372036854775807) (w : World) :
    Calls Try.prog 77 #[.int .i64 n] w fun e w' => e = .returned (.agg #[.int .u64 (L0 n), .int .u64 (L1 n), .int .u64 (L2 n), .int .u64 (L3 n)]) ∧ Below w.heap.size w w' :=
  (of_any n h0 h1 w).mono fun e w' ⟨he, c, hw⟩ => ⟨he, by rw [hw]; repeat' (first | (with_reducible exact Below.refl _ _) | (with_reducible assumption) | (with_reducible refine below_drewN ?_ _) | (with_reducible refine Below.drew ?_) | (with_reducible refine Below.alloc ?_ ?_ _) | (with_reducible refine Below.setCell ?_ ?_ _) | (with_reducible refine then_ ?_ (by with_reducible assumption) ?_) | (with_reducible exact Nat.le_refl _) | (with_reducible exact Nat.le_succ _) | (with_reducible exact Nat.le_succ_of_le (by with_reducible assumption)) | omega | (simp; done) | (simp; omega) | (exact Nat.le_succ _) | (exact Nat.le_succ_of_le (by with_reducible assumption)))⟩
/-- the number that the words of any number are -/
theorem signed_of (z : Int) : ∃ m, Fit m ∧ L0 m = L0 z ∧ L1 m = L1 z ∧ L2 m = L2 z ∧ L3 m = L3 z ∧ ∃ k, m = z + 115792089237316195423570985008687907853269984665640564039457584007913129639936 * k := by
  have h := W4.of z
  obtain ⟨h0, h1, h2, h3⟩ := sg4_L h
  refine ⟨_, sg4_fit h, h0, h1, h2, h3, ?_⟩
  have e := num4_L z
  have d := Int.mul_ediv_add_emod z 115792089237316195423570985008687907853269984665640564039457584007913129639936
  unfold sg4
  rw [e]
  split
  · exact ⟨-(z / 115792089237316195423570985008687907853269984665640564039457584007913129639936) - 1, by omega⟩
  · exact ⟨-(z / 115792089237316195423570985008687907853269984665640564039457584007913129639936), by omega⟩
/-- what was moved up comes down again just if it fits -/
theorem shl_back (a m k : Int) (n : Nat) (ha : Fit a) (hm : Fit m) (e : m = a * 2 ^ n + 115792089237316195423570985008687907853269984665640564039457584007913129639936 * k) : m / 2 ^ n = a ↔ Fit (a * 2 ^ n) := by
  have p : (0 : Int) < 2 ^ n := Int.pow_pos (by decide)
  obtain ⟨m0, m1⟩ := hm
  constructor
  · intro h
    have d := Int.mul_ediv_add_emod m (2 ^ n)
    have r0 := Int.emod_nonneg m (show (2 : Int) ^ n ≠ 0 by omega)
    have r1 := Int.emod_lt_of_pos m p
    rw [h, Int.mul_comm] at d
    by_cases hn : n ≤ 256
    · have l : (2 : Int) ^ n ≤ 2 ^ 256 := by exact_mod_cast Nat.pow_le_pow_right (by omega : 0 < 2) hn
      have l2 : (2 : Int) ^ 256 = 115792089237316195423570985008687907853269984665640564039457584007913129639936 := by decide +kernel
      have : k = 0 := by omega
      subst this
      exact ⟨by omega, by omega⟩
    · have l : (2 : Int) ^ n = 115792089237316195423570985008687907853269984665640564039457584007913129639936 * 2 ^ (n - 256) := by
        rw [show n = 256 + (n - 256) by omega, Int.pow_add, show 256 + (n - 256) - 256 = n - 256 by omega]
        congr 1
      have e2 : m = 115792089237316195423570985008687907853269984665640564039457584007913129639936 * (a * 2 ^ (n - 256) + k) := by
        rw [e, l, Int.mul_add, Int.mul_left_comm]
      have hz : m = 0 := by
        generalize a * 2 ^ (n - 256) + k = t at e2
        omega
      rw [hz, Int.zero_ediv] at h
      rw [← h, Int.zero_mul]
      exact fit0
  · rintro ⟨f0, f1⟩
    have : k = 0 := by omega
    subst this
    rw [e, Int.mul_zero, Int.add_zero, Int.mul_ediv_cancel _ (by omega)]
end Go.Proofs.Ytdkmclaihojknaa
end
section
namespace Go.Proofs.Ytdkmclaihojknaa
open Go.ChangeShapes Go.WideShapes Go.ChangeAt Go.RowKit
set_option linter.unusedVariables false
set_option linter.unusedSimpArgs false

theorem eq_Point (a1 a2 b1 b2 : Int) (w : World) : (Op.equalIn 10000 27 (.agg #[.int .i64 a1, .int .i64 a2]) (.agg #[.int .i64 b1, .int .i64 b2])).run Try.prog w = .ok (decide (a1 = b1 ∧ a2 = b2)) w := by
  have u3 := Try.underlying3
  have a3 := Try.isAgg3
  have z3 := Try.sizeOf3
  rw [show (10000 : Nat) = 9999 + 1 from rfl, run_equalIn_struct w 9999 27 _ _ (by simp [Program.fieldsOf, Try.underlying27]) (by kernel_rfl)]
  simp only [Program.fieldsOf, Try.underlying27]
  by_cases h0 : a1 = b1 <;> by_cases h1 : a2 = b2 <;> simp [Op.eqFields, go_sem, part, u3, a3, z3, h0, h1]
/-- a coordinate that an int can be -/
structure I64 (x : Int) : Prop where
  lo : -9223372036854775808 ≤ x
  hi : x ≤ 9223372036854775807
def inB (x y : Int) : Bool := decide (-268435456 ≤ x) && decide (x ≤ 268435456) && decide (-268435456 ≤ y) && decide (y ≤ 268435456)
theorem inB_iff {x y : Int} : inB x y = true ↔ -268435456 ≤ x ∧ x ≤ 268435456 ∧ -268435456 ≤ y ∧ y ≤ 268435456 := by unfold inB; simp; omega
set_option maxRecDepth 20000 in
theorem In_any (x y : Int) (w : World) : Calls Try.prog 52 #[.agg #[.int .i64 x, .int .i64 y]] w fun e w' => e = .returned (.bool (inB x y)) ∧ Below w.heap.size w w' := by
  go_enter Try.func52, Try.ntmps52
  go_wp2
  all_goals
    try simp only [setCell_drawn]
    refine bodyPost_ret (by first | (simp [results, Try.results52, go_sem, *]; done) | (simp [results, Try.results52, go_sem, *]; rfl)) rfl ⟨?_, ?_⟩
    · first | rfl | (first | refine retb_eq ?_ | refine ret_eq ?_); (try unfold inB); first | (simp [*]; done) | (simp [*] <;> omega) | omega
    · repeat' (first | (with_reducible exact Below.refl _ _) | (with_reducible assumption) | (with_reducible refine below_drewN ?_ _) | (with_reducible refine Below.drew ?_) | (with_reducible refine Below.alloc ?_ ?_ _) | (with_reducible refine Below.setCell ?_ ?_ _) | (with_reducible refine then_ ?_ (by with_reducible assumption) ?_) | (with_reducible exact Nat.le_refl _) | (with_reducible exact Nat.le_succ _) | (with_reducible exact Nat.le_succ_of_le (by with_reducible assumption)) | omega | (simp; done) | (simp; omega) | (exact Nat.le_succ _) | (exact Nat.le_succ_of_le (by with_reducible assumption)))
def ltB (a1 a2 b1 b2 : Int) : Bool := decide (a2 < b2) || (decide (a2 = b2) && decide (a1 < b1))
set_option maxRecDepth 20000 in
theorem Less_any (a1 a2 b1 b2 : Int) (w : World) : Calls Try.prog 65 #[.agg #[.int .i64 a1, .int .i64 a2], .agg #[.int .i64 b1, .int .i64 b2]] w fun e w' => e = .returned (.bool (lsB a1 a2 b1 b2)) ∧ Below w.heap.size w w' := by
  go_enter Try.func65, Try.ntmps65
  go_wp2
  all_goals
    try simp only [setCell_drawn]
    refine bodyPost_ret (by first | (simp [results, Try.results65, go_sem, *]; done) | (simp [results, Try.results65, go_sem, *]; rfl)) rfl ⟨?_, ?_⟩
    · first | rfl | (first | refine retb_eq ?_ | refine ret_eq ?_); (try unfold lsB); first | (simp [*]; done) | (simp [*] <;> omega) | omega
    · repeat' (first | (with_reducible exact Below.refl _ _) | (with_reducible assumption) | (with_reducible refine below_drewN ?_ _) | (with_reducible refine Below.drew ?_) | (with_reducible refine Below.alloc ?_ ?_ _) | (with_reducible refine Below.setCell ?_ ?_ _) | (with_reducible refine then_ ?_ (by with_reducible assumption) ?_) | (with_reducible exact Nat.le_refl _) | (with_reducible exact Nat.le_succ _) | (with_reducible exact Nat.le_succ_of_le (by with_reducible assumption)) | omega | (simp; done) | (simp; omega) | (exact Nat.le_succ _) | (exact Nat.le_succ_of_le (by with_reducible assumption)))
set_option maxRecDepth 20000 in
theorem gap_any (x y : Int) (hx : -268435456 ≤ x ∧ x ≤ 268435456) (hy : -268435456 ≤ y ∧ y ≤ 268435456) (w : World) : Calls Try.prog 71 #[.int .i64 x, .int .i64 y] w fun e w' => e = .returned (.agg #[.int .u64 (L0 (y - x)), .int .u64 (L1 (y - x)), .int .u64 (L2 (y - x)), .int .u64 (L3 (y - x))]) ∧ Below w.heap.size w w' := by
  have hz : IntKind.i64.wrap (y - x) = y - x := by simp only [IntKind.wrap_i64]; omega
  have H := Lib.hid (fun w => of_b (y - x) (by omega) (by omega) w)
  go_enter Try.func71, Try.ntmps71
  go_wp2_with (go_at_call 77; refine (H.out _).mono ?_; rintro e w1 ⟨rfl, hb⟩; have hs := hb.size; obtain ⟨o1, o2, o3⟩ := (Own.keep (Own.made _ _ _) hb).at_)
  all_goals
    try simp only [setCell_drawn]
    refine bodyPost_ret (by first | (simp [results, Try.results71, go_sem, *]; done) | (simp [results, Try.results71, go_sem, *]; rfl)) rfl ⟨?_, ?_⟩
    · first | rfl | (first | refine retb_eq ?_ | refine ret_eq ?_); first | (simp [*]; done) | (simp [*] <;> omega) | omega
    · repeat' (first | (with_reducible exact Below.refl _ _) | (with_reducible assumption) | (with_reducible refine below_drewN ?_ _) | (with_reducible refine Below.drew ?_) | (with_reducible refine Below.alloc ?_ ?_ _) | (with_reducible refine Below.setCell ?_ ?_ _) | (with_reducible refine then_ ?_ (by with_reducible assumption) ?_) | (with_reducible exact Nat.le_refl _) | (with_reducible exact Nat.le_succ _) | (with_reducible exact Nat.le_succ_of_le (by with_reducible assumption)) | omega | (simp; done) | (simp; omega) | (exact Nat.le_succ _) | (exact Nat.le_succ_of_le (by with_reducible assumption)))
end Go.Proofs.Ytdkmclaihojknaa
end
