
/- The contracts of wide.Shr, Small. Conditions: numbers that a wide.Int can be. -/
import Derived.Test.YtdnjkminicmffaaDoorWideH
namespace Go.Proofs.YtdnjkminicmffaaDoor
open Go.ChangeShapes Go.WideShapes Go.ChangeAt Go.RowKit
set_option linter.unusedVariables false

theorem floor_neg (a p : Int) (hp : 0 < p) : -((-a - 1) / p) - 1 = a / p := by
  have e1 := Int.mul_ediv_add_emod a p
  have m0 := Int.emod_nonneg a (show p ≠ 0 by omega)
  have m1 := Int.emod_lt_of_pos a hp
  have e2 : -a - 1 = (p - 1 - a % p) + p * (-(a / p) - 1) := by
    rw [Int.mul_sub, Int.mul_neg, Int.mul_one]; omega
  rw [e2, Int.add_mul_ediv_left _ _ (by omega), Int.ediv_eq_zero_of_lt (by omega) (by omega)]
  omega
theorem turned_b (z : Int) (w : World) :
    Calls Tryd.prog 47 #[.agg #[.int .u64 (L0 z), .int .u64 (L1 z), .int .u64 (L2 z), .int .u64 (L3 z)]] w fun e w' => e = .returned (.agg #[.int .u64 (L0 (-z - 1)), .int .u64 (L1 (-z - 1)), .int .u64 (L2 (-z - 1)), .int .u64 (L3 (-z - 1))]) ∧ Below w.heap.size w w' :=
  (turned_any z w).mono fun e w' ⟨he, c, d, hw⟩ => ⟨he, by rw [hw]; repeat' (first | (with_reducible exact Below.refl _ _) | (with_reducible assumption) | (with_reducible refine below_drewN ?_ _) | (with_reducible refine Below.drew ?_) | (with_reducible refine Below.alloc ?_ ?_ _) | (with_reducible refine Below.setCell ?_ ?_ _) | (with_reducible refine then_ ?_ (by with_reducible assumption) ?_) | (with_reducible exact Nat.le_refl _) | (with_reducible exact Nat.le_succ _) | (with_reducible exact Nat.le_succ_of_le (by with_reducible assumption)) | omega | (simp; done) | (simp; omega) | (exact Nat.le_succ _) | (exact Nat.le_succ_of_le (by with_reducible assumption)))⟩
set_option maxRecDepth 20000 in
theorem Shr_neg (a n : Int) (hn : n < 0) (w : World) :
    Calls Tryd.prog 25 #[.agg #[.int .u64 (L0 a), .int .u64 (L1 a), .int .u64 (L2 a), .int .u64 (L3 a)], .int .i64 n] w fun e w' => e = .returned (.agg #[.int .u64 (L0 a), .int .u64 (L1 a), .int .u64 (L2 a), .int .u64 (L3 a)]) ∧ Below w.heap.size w w' := by
  go_enter Tryd.func25, Tryd.ntmps25
  go_wp2
  try simp only [setCell_drawn]
  refine bodyPost_ret (by simp [results, Tryd.results25, go_sem]) rfl ⟨rfl, ?_⟩
  repeat' (first | (with_reducible exact Below.refl _ _) | (with_reducible assumption) | (with_reducible refine below_drewN ?_ _) | (with_reducible refine Below.drew ?_) | (with_reducible refine Below.alloc ?_ ?_ _) | (with_reducible refine Below.setCell ?_ ?_ _) | (with_reducible refine then_ ?_ (by with_reducible assumption) ?_) | (with_reducible exact Nat.le_refl _) | (with_reducible exact Nat.le_succ _) | (with_reducible exact Nat.le_succ_of_le (by with_reducible assumption)) | omega | (simp; done) | (simp; omega) | (exact Nat.le_succ _) | (exact Nat.le_succ_of_le (by with_reducible assumption)))
set_option maxRecDepth 20000 in
theorem Shr_pos (a n : Int) (ha : Fit a) (h0 : 0 ≤ a) (hn : 0 ≤ n) (hn' : n ≤ 9223372036854775807) (w : World) :
    Calls Tryd.prog 25 #[.agg #[.int .u64 (L0 a), .int .u64 (L1 a), .int .u64 (L2 a), .int .u64 (L3 a)], .int .i64 n] w fun e w' => e = .returned (.agg #[.int .u64 (L0 (a / 2 ^ n.toNat)), .int .u64 (L1 (a / 2 ^ n.toNat)), .int .u64 (L2 (a / 2 ^ n.toNat)), .int .u64 (L3 (a / 2 ^ n.toNat))]) ∧ Below w.heap.size w w' := by
  have B := Lib.hid (fun w => below_o (z := a) (s := false) (by rw [ngB_fit ha]; simpa using h0) w)
  have D := Lib.hid (fun w => down_b a n ⟨h0, by have := ha.hi; omega⟩ hn hn' w)
  have hnd : decide (n < 0) = false := by simpa using hn
  clear ha h0
  generalize a / 2 ^ n.toNat = q at *
  go_enter Tryd.func25, Tryd.ntmps25
  go_wp2_with (first
    | (go_at_call 35; refine (B.out _).mono ?_; rintro e w1 ⟨rfl, hb1⟩
       have OA : Own w1 w.heap.size 24 #[.int .u64 (L0 a), .int .u64 (L1 a), .int .u64 (L2 a), .int .u64 (L3 a)] := Own.keep (by repeat' (first | (with_reducible assumption) | (with_reducible refine Own.drawnN ?_ _) | (with_reducible refine Own.drawn ?_) | (with_reducible refine Own.made_at ?_; first | rfl | (simp; done) | omega | (simp; omega)) | (with_reducible refine Own.more ?_ _) | (with_reducible refine Own.apart ?_ ?_ _ _; rotate_left; first | omega | (simp; done) | (simp; omega)) | (refine Own.put ?_ _ _))) hb1
       have OR : Own w1 (w.heap.size + 1) 24 #[.int .u64 0, .int .u64 0, .int .u64 0, .int .u64 0] := Own.keep (by repeat' (first | (with_reducible assumption) | (with_reducible refine Own.drawnN ?_ _) | (with_reducible refine Own.drawn ?_) | (with_reducible refine Own.made_at ?_; first | rfl | (simp; done) | omega | (simp; omega)) | (with_reducible refine Own.more ?_ _) | (with_reducible refine Own.apart ?_ ?_ _ _; rotate_left; first | omega | (simp; done) | (simp; omega)) | (refine Own.put ?_ _ _))) hb1
       have hB : Below w.heap.size w w1 := then_ (by repeat' (first | (with_reducible exact Below.refl _ _) | (with_reducible assumption) | (with_reducible refine below_drewN ?_ _) | (with_reducible refine Below.drew ?_) | (with_reducible refine Below.alloc ?_ ?_ _) | (with_reducible refine Below.setCell ?_ ?_ _) | (with_reducible refine then_ ?_ (by with_reducible assumption) ?_) | (with_reducible exact Nat.le_refl _) | (with_reducible exact Nat.le_succ _) | (with_reducible exact Nat.le_succ_of_le (by with_reducible assumption)) | omega | (simp; done) | (simp; omega) | (exact Nat.le_succ _) | (exact Nat.le_succ_of_le (by with_reducible assumption)))) hb1 (by simp; omega)
       obtain ⟨A1, A2, A3⟩ := OA.at_)
    | (go_at_call 46; refine (D.out _).mono ?_; rintro e w2 ⟨rfl, hb2⟩
       have OR2 := OR.keep hb2
       have hB2 := then_ hB hb2 hB.size
       clear A1 A2 A3
       obtain ⟨R1, R2, R3⟩ := OR2.at_))
  try simp only [setCell_drawn]
  refine bodyPost_ret (by simp [results, Tryd.results25, go_sem, R1]) rfl ⟨rfl, ?_⟩
  repeat' (first | (with_reducible exact Below.refl _ _) | (with_reducible assumption) | (with_reducible refine below_drewN ?_ _) | (with_reducible refine Below.drew ?_) | (with_reducible refine Below.alloc ?_ ?_ _) | (with_reducible refine Below.setCell ?_ ?_ _) | (with_reducible refine then_ ?_ (by with_reducible assumption) ?_) | (with_reducible exact Nat.le_refl _) | (with_reducible exact Nat.le_succ _) | (with_reducible exact Nat.le_succ_of_le (by with_reducible assumption)) | omega | (simp; done) | (simp; omega) | (exact Nat.le_succ _) | (exact Nat.le_succ_of_le (by with_reducible assumption)))
set_option maxHeartbeats 1600000 in
set_option maxRecDepth 20000 in
theorem Shr_low (a n : Int) (ha : Fit a) (h0 : a < 0) (hn : 0 ≤ n) (hn' : n ≤ 9223372036854775807) (w : World) :
    Calls Tryd.prog 25 #[.agg #[.int .u64 (L0 a), .int .u64 (L1 a), .int .u64 (L2 a), .int .u64 (L3 a)], .int .i64 n] w fun e w' => e = .returned (.agg #[.int .u64 (L0 (a / 2 ^ n.toNat)), .int .u64 (L1 (a / 2 ^ n.toNat)), .int .u64 (L2 (a / 2 ^ n.toNat)), .int .u64 (L3 (a / 2 ^ n.toNat))]) ∧ Below w.heap.size w w' := by
  have B := Lib.hid (fun w => below_o (z := a) (s := true) (by rw [ngB_fit ha]; simpa using h0) w)
  have D := Lib.hid (fun w => down_b (-a - 1) n ⟨by omega, by have := ha.lo; omega⟩ hn hn' w)
  have T1 := Lib.hid (fun w => turned_b a w)
  have T2 := Lib.hid (fun w => turned_b ((-a - 1) / 2 ^ n.toNat) w)
  have E := floor_neg a (2 ^ n.toNat) (Int.pow_pos (by decide))
  rw [E] at T2
  have hnd : decide (n < 0) = false := by simpa using hn
  clear ha h0 E
  generalize (-a - 1) / 2 ^ n.toNat = q1 at *
  generalize a / 2 ^ n.toNat = q at *
  generalize -a - 1 = t at *
  go_enter Tryd.func25, Tryd.ntmps25
  go_wp2_with (first
    | (go_at_call 35; refine (B.out _).mono ?_; rintro e w1 ⟨rfl, hb1⟩
       have OA : Own w1 w.heap.size 24 #[.int .u64 (L0 a), .int .u64 (L1 a), .int .u64 (L2 a), .int .u64 (L3 a)] := Own.keep (by repeat' (first | (with_reducible assumption) | (with_reducible refine Own.drawnN ?_ _) | (with_reducible refine Own.drawn ?_) | (with_reducible refine Own.made_at ?_; first | rfl | (simp; done) | omega | (simp; omega)) | (with_reducible refine Own.more ?_ _) | (with_reducible refine Own.apart ?_ ?_ _ _; rotate_left; first | omega | (simp; done) | (simp; omega)) | (refine Own.put ?_ _ _))) hb1
       have OR : Own w1 (w.heap.size + 1) 24 #[.int .u64 0, .int .u64 0, .int .u64 0, .int .u64 0] := Own.keep (by repeat' (first | (with_reducible assumption) | (with_reducible refine Own.drawnN ?_ _) | (with_reducible refine Own.drawn ?_) | (with_reducible refine Own.made_at ?_; first | rfl | (simp; done) | omega | (simp; omega)) | (with_reducible refine Own.more ?_ _) | (with_reducible refine Own.apart ?_ ?_ _ _; rotate_left; first | omega | (simp; done) | (simp; omega)) | (refine Own.put ?_ _ _))) hb1
       have hB : Below w.heap.size w w1 := then_ (by repeat' (first | (with_reducible exact Below.refl _ _) | (with_reducible assumption) | (with_reducible refine below_drewN ?_ _) | (with_reducible refine Below.drew ?_) | (with_reducible refine Below.alloc ?_ ?_ _) | (with_reducible refine Below.setCell ?_ ?_ _) | (with_reducible refine then_ ?_ (by with_reducible assumption) ?_) | (with_reducible exact Nat.le_refl _) | (with_reducible exact Nat.le_succ _) | (with_reducible exact Nat.le_succ_of_le (by with_reducible assumption)) | omega | (simp; done) | (simp; omega) | (exact Nat.le_succ _) | (exact Nat.le_succ_of_le (by with_reducible assumption)))) hb1 (by simp; omega)
       obtain ⟨A1, A2, A3⟩ := OA.at_)
    | (go_at_call 47; with_reducible refine (T1.out _).mono ?_; rintro e w2 ⟨rfl, hb2⟩
       have OR2 := OR.keep hb2
       have hB2 := then_ hB hb2 hB.size
       clear A1 A2 A3)
    | (go_at_call 46; refine (D.out _).mono ?_; rintro e w3 ⟨rfl, hb3⟩
       have OR3 := OR2.keep hb3
       have hB3 := then_ hB2 hb3 hB2.size)
    | (go_at_call 47; with_reducible refine (T2.out _).mono ?_; rintro e w4 ⟨rfl, hb4⟩
       have OR4 := OR3.keep hb4
       have hB4 := then_ hB3 hb4 hB3.size
       obtain ⟨R1, R2, R3⟩ := OR4.at_))
  try simp only [setCell_drawn]
  refine bodyPost_ret (by simp [results, Tryd.results25, go_sem, R1]) rfl ⟨rfl, ?_⟩
  repeat' (first | (with_reducible exact Below.refl _ _) | (with_reducible assumption) | (with_reducible refine below_drewN ?_ _) | (with_reducible refine Below.drew ?_) | (with_reducible refine Below.alloc ?_ ?_ _) | (with_reducible refine Below.setCell ?_ ?_ _) | (with_reducible refine then_ ?_ (by with_reducible assumption) ?_) | (with_reducible exact Nat.le_refl _) | (with_reducible exact Nat.le_succ _) | (with_reducible exact Nat.le_succ_of_le (by with_reducible assumption)) | omega | (simp; done) | (simp; omega) | (exact Nat.le_succ _) | (exact Nat.le_succ_of_le (by with_reducible assumption)))
/-- the greatest whole number not above a through 2^n -/
def shrZ (a n : Int) : Int := if n < 0 then a else a / 2 ^ n.toNat
theorem Shr_any (a n : Int) (ha : Fit a) (hn' : n ≤ 9223372036854775807) (w : World) :
    Calls Tryd.prog 25 #[.agg #[.int .u64 (L0 a), .int .u64 (L1 a), .int .u64 (L2 a), .int .u64 (L3 a)], .int .i64 n] w fun e w' => e = .returned (.agg #[.int .u64 (L0 (shrZ a n)), .int .u64 (L1 (shrZ a n)), .int .u64 (L2 (shrZ a n)), .int .u64 (L3 (shrZ a n))]) ∧ Below w.heap.size w w' := by
  unfold shrZ
  by_cases hn : n < 0
  · rw [if_pos hn]; exact Shr_neg a n hn w
  · rw [if_neg hn]
    by_cases h0 : a < 0
    · exact Shr_low a n ha h0 (by omega) hn' w
    · exact Shr_pos a n ha (by omega) (by omega) hn' w

theorem tupb_eq {a b : Int} {s : Bool} (h : a = b) : Ending.returned (.tuple #[.int .i64 a, .bool s]) = .returned (.tuple #[.int .i64 b, .bool s]) := by rw [h]
theorem Fit.of64 {n : Int} (h0 : -9223372036854775808 ≤ n) (h1 : n ≤ 9223372036854775807) : Fit n := ⟨by omega, by omega⟩
/-- an int64 with the lowest word -/
def lowZ (a : Int) : Int := wrap64 (L0 a)
theorem lowZ_range (a : Int) : -9223372036854775808 ≤ lowZ a ∧ lowZ a ≤ 9223372036854775807 := by
  unfold lowZ wrap64; omega
theorem lowZ_same {n : Int} (h0 : -9223372036854775808 ≤ n) (h1 : n ≤ 9223372036854775807) : lowZ n = n := by
  unfold lowZ L0 wrap64; omega
theorem of_b (n : Int) (h0 : -9223372036854775808 ≤ n) (h1 : n ≤ 9223372036854775807) (w : World) :
    Calls Tryd.prog 37 #[.int .i64 n] w fun e w' => e = .returned (.agg #[.int .u64 (L0 n), .int .u64 (L1 n), .int .u64 (L2 n), .int .u64 (L3 n)]) ∧ Below w.heap.size w w' :=
  (of_any n h0 h1 w).mono fun e w' ⟨he, c, hw⟩ => ⟨he, by rw [hw]; repeat' (first | (with_reducible exact Below.refl _ _) | (with_reducible assumption) | (with_reducible refine below_drewN ?_ _) | (with_reducible refine Below.drew ?_) | (with_reducible refine Below.alloc ?_ ?_ _) | (with_reducible refine Below.setCell ?_ ?_ _) | (with_reducible refine then_ ?_ (by with_reducible assumption) ?_) | (with_reducible exact Nat.le_refl _) | (with_reducible exact Nat.le_succ _) | (with_reducible exact Nat.le_succ_of_le (by with_reducible assumption)) | omega | (simp; done) | (simp; omega) | (exact Nat.le_succ _) | (exact Nat.le_succ_of_le (by with_reducible assumption)))⟩
/-- the number that the words of any number are -/
theorem signed_of (z : Int) : ∃ m, Fit m ∧ L0 m = L0 z ∧ L1 m = L1 z ∧ L2 m = L2 z ∧ L3 m = L3 z ∧ ∃ k, m = z + 115792089237316195423570985008687907853269984665640564039457584007913129639936 * k := by
  have h := W4.of z
  obtain ⟨h0, h1, h2, h3⟩ := sg4_L h
  refine ⟨_, sg4_fit h, h0, h1, h2, h3, ?_⟩
  have e := num4_L z
  have d := Int.mul_ediv_add_emod z 115792089237316195423570985008687907853269984665640564039457584007913129639936
  unfold sg4
  rw [e]
  split
  · exact ⟨-(z / 115792089237316195423570985008687907853269984665640564039457584007913129639936) - 1, by omega⟩
  · exact ⟨-(z / 115792089237316195423570985008687907853269984665640564039457584007913129639936), by omega⟩
/-- what was moved up comes down again just if it fits -/
theorem shl_back (a m k : Int) (n : Nat) (ha : Fit a) (hm : Fit m) (e : m = a * 2 ^ n + 115792089237316195423570985008687907853269984665640564039457584007913129639936 * k) : m / 2 ^ n = a ↔ Fit (a * 2 ^ n) := by
  have p : (0 : Int) < 2 ^ n := Int.pow_pos (by decide)
  obtain ⟨m0, m1⟩ := hm
  constructor
  · intro h
    have d := Int.mul_ediv_add_emod m (2 ^ n)
    have r0 := Int.emod_nonneg m (show (2 : Int) ^ n ≠ 0 by omega)
    have r1 := Int.emod_lt_of_pos m p
    rw [h, Int.mul_comm] at d
    by_cases hn : n ≤ 256
    · have l : (2 : Int) ^ n ≤ 2 ^ 256 := by exact_mod_cast Nat.pow_le_pow_right (by omega : 0 < 2) hn
      have l2 : (2 : Int) ^ 256 = 115792089237316195423570985008687907853269984665640564039457584007913129639936 := by decide +kernel
      have : k = 0 := by omega
      subst this
      exact ⟨by omega, by omega⟩
    · have l : (2 : Int) ^ n = 115792089237316195423570985008687907853269984665640564039457584007913129639936 * 2 ^ (n - 256) := by
        rw [show n = 256 + (n - 256) by omega, Int.pow_add, show 256 + (n - 256) - 256 = n - 256 by omega]
        congr 1
      have e2 : m = 115792089237316195423570985008687907853269984665640564039457584007913129639936 * (a * 2 ^ (n - 256) + k) := by
        rw [e, l, Int.mul_add, Int.mul_left_comm]
      have hz : m = 0 := by
        generalize a * 2 ^ (n - 256) + k = t at e2
        omega
      rw [hz, Int.zero_ediv] at h
      rw [← h, Int.zero_mul]
      exact fit0
  · rintro ⟨f0, f1⟩
    have : k = 0 := by omega
    subst this
    rw [e, Int.mul_zero, Int.add_zero, Int.mul_ediv_cancel _ (by omega)]
theorem Shl_arg (a n : Int) (hn : n < 0) (w : World) :
    Calls Tryd.prog 24 #[.agg #[.int .u64 (L0 a), .int .u64 (L1 a), .int .u64 (L2 a), .int .u64 (L3 a)], .int .i64 n] w fun e w' => e = .returned (.tuple #[.agg #[.int .u64 0, .int .u64 0, .int .u64 0, .int .u64 0], .int .i64 1]) ∧ Below w.heap.size w w' := by
  go_enter Tryd.func24, Tryd.ntmps24
  go_wp2
  try simp only [setCell_drawn]
  refine bodyPost_ret (by simp [results, Tryd.results24, go_sem]) rfl ⟨rfl, ?_⟩
  repeat' (first | (with_reducible exact Below.refl _ _) | (with_reducible assumption) | (with_reducible refine below_drewN ?_ _) | (with_reducible refine Below.drew ?_) | (with_reducible refine Below.alloc ?_ ?_ _) | (with_reducible refine Below.setCell ?_ ?_ _) | (with_reducible refine then_ ?_ (by with_reducible assumption) ?_) | (with_reducible exact Nat.le_refl _) | (with_reducible exact Nat.le_succ _) | (with_reducible exact Nat.le_succ_of_le (by with_reducible assumption)) | omega | (simp; done) | (simp; omega) | (exact Nat.le_succ _) | (exact Nat.le_succ_of_le (by with_reducible assumption)))
set_option maxHeartbeats 1600000 in
set_option maxRecDepth 20000 in
theorem Shl_any (a n : Int) (ha : Fit a) (hn : 0 ≤ n) (hn' : n ≤ 9223372036854775807) (w : World) :
    Calls Tryd.prog 24 #[.agg #[.int .u64 (L0 a), .int .u64 (L1 a), .int .u64 (L2 a), .int .u64 (L3 a)], .int .i64 n] w fun e w' => (Fit (a * 2 ^ n.toNat) → e = .returned (.tuple #[.agg #[.int .u64 (L0 (a * 2 ^ n.toNat)), .int .u64 (L1 (a * 2 ^ n.toNat)), .int .u64 (L2 (a * 2 ^ n.toNat)), .int .u64 (L3 (a * 2 ^ n.toNat))], .int .i64 0])) ∧ (¬ Fit (a * 2 ^ n.toNat) → e = .returned (.tuple #[.agg #[.int .u64 0, .int .u64 0, .int .u64 0, .int .u64 0], .int .i64 3])) ∧ Below w.heap.size w w' := by
  have U := Lib.hid (fun w => up_b a n hn hn' w)
  obtain ⟨m, hm, h0, h1, h2, h3, k, hk⟩ := signed_of (a * 2 ^ n.toNat)
  have SB := shl_back a m k n.toNat ha hm hk
  rw [← h0, ← h1, ← h2, ← h3]
  rw [← h0, ← h1, ← h2, ← h3] at U
  have SH := Shr_any m n hm hn'
  have hs : shrZ m n = m / 2 ^ n.toNat := by unfold shrZ; rw [if_neg (by omega)]
  have fq : Fit (m / 2 ^ n.toNat) := by
    have p : (0 : Int) < 2 ^ n.toNat := Int.pow_pos (by decide)
    obtain ⟨m0, m1⟩ := hm
    constructor
    · apply Int.le_ediv_of_mul_le p
      have := Int.mul_le_mul_of_nonneg_left (show (1 : Int) ≤ 2 ^ n.toNat by omega) (show (0 : Int) ≤ 57896044618658097711785492504343953926634992332820282019728792003956564819968 by decide)
      omega
    · have h1 := Int.ediv_le_ediv p m1
      have l : (57896044618658097711785492504343953926634992332820282019728792003956564819967 : Int) / 2 ^ n.toNat ≤ 57896044618658097711785492504343953926634992332820282019728792003956564819967 := Int.ediv_le_self _ (by decide)
      omega
  rw [hs] at SH
  have EQ : ∀ w, (Op.equalIn 10000 24 (.agg #[.int .u64 (L0 (m / 2 ^ n.toNat)), .int .u64 (L1 (m / 2 ^ n.toNat)), .int .u64 (L2 (m / 2 ^ n.toNat)), .int .u64 (L3 (m / 2 ^ n.toNat))]) (.agg #[.int .u64 (L0 a), .int .u64 (L1 a), .int .u64 (L2 a), .int .u64 (L3 a)])).run Tryd.prog w = .ok (decide (m / 2 ^ n.toNat = a)) w := fun w => eq_fit fq ha w
  have SHH := Lib.hid SH
  clear SH hs h0 h1 h2 h3 hk hm ha fq
  have hnd : decide (n < 0) = false := by simpa using hn
  by_cases hf : Fit (a * 2 ^ n.toNat)
  · rw [decide_eq_true (SB.2 hf)] at EQ
    clear SB
    generalize m / 2 ^ n.toNat = q at *
    generalize L0 a = x0 at *; generalize L1 a = x1 at *; generalize L2 a = x2 at *; generalize L3 a = x3 at *
    have goal : Calls Tryd.prog 24 #[.agg #[.int .u64 x0, .int .u64 x1, .int .u64 x2, .int .u64 x3], .int .i64 n] w fun e w' => e = .returned (.tuple #[.agg #[.int .u64 (L0 m), .int .u64 (L1 m), .int .u64 (L2 m), .int .u64 (L3 m)], .int .i64 0]) ∧ Below w.heap.size w w' := by
      clear hf
      go_enter Tryd.func24, Tryd.ntmps24
      go_wp2_with
        (go_at_call 45; refine (U.out _).mono ?_; rintro e w1 ⟨rfl, hb1⟩
         have OA : Own w1 w.heap.size 24 #[.int .u64 x0, .int .u64 x1, .int .u64 x2, .int .u64 x3] := Own.keep (by repeat' (first | (with_reducible assumption) | (with_reducible refine Own.drawnN ?_ _) | (with_reducible refine Own.drawn ?_) | (with_reducible refine Own.made_at ?_; first | rfl | (simp; done) | omega | (simp; omega)) | (with_reducible refine Own.more ?_ _) | (with_reducible refine Own.apart ?_ ?_ _ _; rotate_left; first | omega | (simp; done) | (simp; omega)) | (refine Own.put ?_ _ _))) hb1
         have OR : Own w1 (w.heap.size + 1) 24 #[.int .u64 0, .int .u64 0, .int .u64 0, .int .u64 0] := Own.keep (by repeat' (first | (with_reducible assumption) | (with_reducible refine Own.drawnN ?_ _) | (with_reducible refine Own.drawn ?_) | (with_reducible refine Own.made_at ?_; first | rfl | (simp; done) | omega | (simp; omega)) | (with_reducible refine Own.more ?_ _) | (with_reducible refine Own.apart ?_ ?_ _ _; rotate_left; first | omega | (simp; done) | (simp; omega)) | (refine Own.put ?_ _ _))) hb1
         have hB : Below w.heap.size w w1 := then_ (by repeat' (first | (with_reducible exact Below.refl _ _) | (with_reducible assumption) | (with_reducible refine below_drewN ?_ _) | (with_reducible refine Below.drew ?_) | (with_reducible refine Below.alloc ?_ ?_ _) | (with_reducible refine Below.setCell ?_ ?_ _) | (with_reducible refine then_ ?_ (by with_reducible assumption) ?_) | (with_reducible exact Nat.le_refl _) | (with_reducible exact Nat.le_succ _) | (with_reducible exact Nat.le_succ_of_le (by with_reducible assumption)) | omega | (simp; done) | (simp; omega) | (exact Nat.le_succ _) | (exact Nat.le_succ_of_le (by with_reducible assumption)))) hb1 (by simp; omega)
         obtain ⟨A1, A2, A3⟩ := OA.at_)
      obtain ⟨R1, R2, R3⟩ := OR.at_
      go_region_held3 (fun W => Below w.heap.size w W ∧ Own W (w.heap.size) 24 #[.int .u64 x0, .int .u64 x1, .int .u64 x2, .int .u64 x3] ∧ Own W (w.heap.size + 1) 24 #[.int .u64 0, .int .u64 0, .int .u64 0, .int .u64 0] ∧ Own W (w1.heap.size) 24 #[.int .u64 (L0 m), .int .u64 (L1 m), .int .u64 (L2 m), .int .u64 (L3 m)] ∧ W.cell? ⟨w.heap.size, 0, none⟩ = some (.int .u64 x0) ∧ W.cell? ⟨w.heap.size, 1, none⟩ = some (.int .u64 x1) ∧ W.cell? ⟨w.heap.size, 2, none⟩ = some (.int .u64 x2) ∧ W.cell? ⟨w.heap.size, 3, none⟩ = some (.int .u64 x3) ∧ W.cell? ⟨w1.heap.size, 0, none⟩ = some (.int .u64 (L0 m)) ∧ W.cell? ⟨w1.heap.size, 1, none⟩ = some (.int .u64 (L1 m)) ∧ W.cell? ⟨w1.heap.size, 2, none⟩ = some (.int .u64 (L2 m)) ∧ W.cell? ⟨w1.heap.size, 3, none⟩ = some (.int .u64 (L3 m)))
        (first
          | (refine ⟨by repeat' (first | (with_reducible exact Below.refl _ _) | (with_reducible assumption) | (with_reducible refine below_drewN ?_ _) | (with_reducible refine Below.drew ?_) | (with_reducible refine Below.alloc ?_ ?_ _) | (with_reducible refine Below.setCell ?_ ?_ _) | (with_reducible refine then_ ?_ (by with_reducible assumption) ?_) | (with_reducible exact Nat.le_refl _) | (with_reducible exact Nat.le_succ _) | (with_reducible exact Nat.le_succ_of_le (by with_reducible assumption)) | omega | (simp; done) | (simp; omega) | (exact Nat.le_succ _) | (exact Nat.le_succ_of_le (by with_reducible assumption))), by repeat' (first | (with_reducible assumption) | (with_reducible refine Own.drawnN ?_ _) | (with_reducible refine Own.drawn ?_) | (with_reducible refine Own.made_at ?_; first | rfl | (simp; done) | omega | (simp; omega)) | (with_reducible refine Own.more ?_ _) | (with_reducible refine Own.apart ?_ ?_ _ _; rotate_left; first | omega | (simp; done) | (simp; omega)) | (refine Own.put ?_ _ _)), by repeat' (first | (with_reducible assumption) | (with_reducible refine Own.drawnN ?_ _) | (with_reducible refine Own.drawn ?_) | (with_reducible refine Own.made_at ?_; first | rfl | (simp; done) | omega | (simp; omega)) | (with_reducible refine Own.more ?_ _) | (with_reducible refine Own.apart ?_ ?_ _ _; rotate_left; first | omega | (simp; done) | (simp; omega)) | (refine Own.put ?_ _ _)), by repeat' (first | (with_reducible assumption) | (with_reducible refine Own.drawnN ?_ _) | (with_reducible refine Own.drawn ?_) | (with_reducible refine Own.made_at ?_; first | rfl | (simp; done) | omega | (simp; omega)) | (with_reducible refine Own.more ?_ _) | (with_reducible refine Own.apart ?_ ?_ _ _; rotate_left; first | omega | (simp; done) | (simp; omega)) | (refine Own.put ?_ _ _)), ?_⟩; simp [go_sem, *]; done)
          | (obtain ⟨kb, k0, k1, k2, f0, f1, f2, f3, f4, f5, f6, f7⟩ := ‹Below w.heap.size w _ ∧ _›; exact ⟨then_ kb hbN kb.size, k0.keep hbN, k1.keep hbN, k2.keep hbN, keep hbN f0, keep hbN f1, keep hbN f2, keep hbN f3, keep hbN f4, keep hbN f5, keep hbN f6, keep hbN f7⟩))
        (first
          | (go_at_call 25; with_reducible refine (SHH.out _).mono ?_; rintro e wN ⟨rfl, hbN⟩))
      rename_i hh
      obtain ⟨hBe, OAe, ORe, OMe, -⟩ := hh
      clear A1 A2 A3 R1 R2 R3 OA OR hB hb1
      obtain ⟨R1, R2, R3⟩ := ORe.at_
      obtain ⟨M1, M2, M3⟩ := OMe.at_
      go_wp2
      try simp only [setCell_drawn]
      refine bodyPost_ret (by simp [results, Tryd.results24, go_sem, R1]) rfl ⟨rfl, ?_⟩
      repeat' (first | (with_reducible exact Below.refl _ _) | (with_reducible assumption) | (with_reducible refine below_drewN ?_ _) | (with_reducible refine Below.drew ?_) | (with_reducible refine Below.alloc ?_ ?_ _) | (with_reducible refine Below.setCell ?_ ?_ _) | (with_reducible refine then_ ?_ (by with_reducible assumption) ?_) | (with_reducible exact Nat.le_refl _) | (with_reducible exact Nat.le_succ _) | (with_reducible exact Nat.le_succ_of_le (by with_reducible assumption)) | omega | (simp; done) | (simp; omega) | (exact Nat.le_succ _) | (exact Nat.le_succ_of_le (by with_reducible assumption)))
    exact goal.mono fun e w' ⟨he, hw⟩ => ⟨fun _ => he, fun h => absurd hf h, hw⟩
  · rw [decide_eq_false (fun h => hf (SB.1 h))] at EQ
    clear SB
    generalize m / 2 ^ n.toNat = q at *
    generalize L0 a = x0 at *; generalize L1 a = x1 at *; generalize L2 a = x2 at *; generalize L3 a = x3 at *
    have goal : Calls Tryd.prog 24 #[.agg #[.int .u64 x0, .int .u64 x1, .int .u64 x2, .int .u64 x3], .int .i64 n] w fun e w' => e = .returned (.tuple #[.agg #[.int .u64 0, .int .u64 0, .int .u64 0, .int .u64 0], .int .i64 3]) ∧ Below w.heap.size w w' := by
      clear hf
      go_enter Tryd.func24, Tryd.ntmps24
      go_wp2_with
        (go_at_call 45; refine (U.out _).mono ?_; rintro e w1 ⟨rfl, hb1⟩
         have OA : Own w1 w.heap.size 24 #[.int .u64 x0, .int .u64 x1, .int .u64 x2, .int .u64 x3] := Own.keep (by repeat' (first | (with_reducible assumption) | (with_reducible refine Own.drawnN ?_ _) | (with_reducible refine Own.drawn ?_) | (with_reducible refine Own.made_at ?_; first | rfl | (simp; done) | omega | (simp; omega)) | (with_reducible refine Own.more ?_ _) | (with_reducible refine Own.apart ?_ ?_ _ _; rotate_left; first | omega | (simp; done) | (simp; omega)) | (refine Own.put ?_ _ _))) hb1
         have OR : Own w1 (w.heap.size + 1) 24 #[.int .u64 0, .int .u64 0, .int .u64 0, .int .u64 0] := Own.keep (by repeat' (first | (with_reducible assumption) | (with_reducible refine Own.drawnN ?_ _) | (with_reducible refine Own.drawn ?_) | (with_reducible refine Own.made_at ?_; first | rfl | (simp; done) | omega | (simp; omega)) | (with_reducible refine Own.more ?_ _) | (with_reducible refine Own.apart ?_ ?_ _ _; rotate_left; first | omega | (simp; done) | (simp; omega)) | (refine Own.put ?_ _ _))) hb1
         have hB : Below w.heap.size w w1 := then_ (by repeat' (first | (with_reducible exact Below.refl _ _) | (with_reducible assumption) | (with_reducible refine below_drewN ?_ _) | (with_reducible refine Below.drew ?_) | (with_reducible refine Below.alloc ?_ ?_ _) | (with_reducible refine Below.setCell ?_ ?_ _) | (with_reducible refine then_ ?_ (by with_reducible assumption) ?_) | (with_reducible exact Nat.le_refl _) | (with_reducible exact Nat.le_succ _) | (with_reducible exact Nat.le_succ_of_le (by with_reducible assumption)) | omega | (simp; done) | (simp; omega) | (exact Nat.le_succ _) | (exact Nat.le_succ_of_le (by with_reducible assumption)))) hb1 (by simp; omega)
         obtain ⟨A1, A2, A3⟩ := OA.at_)
      obtain ⟨R1, R2, R3⟩ := OR.at_
      go_region_held3 (fun W => Below w.heap.size w W ∧ Own W (w.heap.size) 24 #[.int .u64 x0, .int .u64 x1, .int .u64 x2, .int .u64 x3] ∧ Own W (w.heap.size + 1) 24 #[.int .u64 0, .int .u64 0, .int .u64 0, .int .u64 0] ∧ Own W (w1.heap.size) 24 #[.int .u64 (L0 m), .int .u64 (L1 m), .int .u64 (L2 m), .int .u64 (L3 m)] ∧ W.cell? ⟨w.heap.size, 0, none⟩ = some (.int .u64 x0) ∧ W.cell? ⟨w.heap.size, 1, none⟩ = some (.int .u64 x1) ∧ W.cell? ⟨w.heap.size, 2, none⟩ = some (.int .u64 x2) ∧ W.cell? ⟨w.heap.size, 3, none⟩ = some (.int .u64 x3) ∧ W.cell? ⟨w1.heap.size, 0, none⟩ = some (.int .u64 (L0 m)) ∧ W.cell? ⟨w1.heap.size, 1, none⟩ = some (.int .u64 (L1 m)) ∧ W.cell? ⟨w1.heap.size, 2, none⟩ = some (.int .u64 (L2 m)) ∧ W.cell? ⟨w1.heap.size, 3, none⟩ = some (.int .u64 (L3 m)))
        (first
          | (refine ⟨by repeat' (first | (with_reducible exact Below.refl _ _) | (with_reducible assumption) | (with_reducible refine below_drewN ?_ _) | (with_reducible refine Below.drew ?_) | (with_reducible refine Below.alloc ?_ ?_ _) | (with_reducible refine Below.setCell ?_ ?_ _) | (with_reducible refine then_ ?_ (by with_reducible assumption) ?_) | (with_reducible exact Nat.le_refl _) | (with_reducible exact Nat.le_succ _) | (with_reducible exact Nat.le_succ_of_le (by with_reducible assumption)) | omega | (simp; done) | (simp; omega) | (exact Nat.le_succ _) | (exact Nat.le_succ_of_le (by with_reducible assumption))), by repeat' (first | (with_reducible assumption) | (with_reducible refine Own.drawnN ?_ _) | (with_reducible refine Own.drawn ?_) | (with_reducible refine Own.made_at ?_; first | rfl | (simp; done) | omega | (simp; omega)) | (with_reducible refine Own.more ?_ _) | (with_reducible refine Own.apart ?_ ?_ _ _; rotate_left; first | omega | (simp; done) | (simp; omega)) | (refine Own.put ?_ _ _)), by repeat' (first | (with_reducible assumption) | (with_reducible refine Own.drawnN ?_ _) | (with_reducible refine Own.drawn ?_) | (with_reducible refine Own.made_at ?_; first | rfl | (simp; done) | omega | (simp; omega)) | (with_reducible refine Own.more ?_ _) | (with_reducible refine Own.apart ?_ ?_ _ _; rotate_left; first | omega | (simp; done) | (simp; omega)) | (refine Own.put ?_ _ _)), by repeat' (first | (with_reducible assumption) | (with_reducible refine Own.drawnN ?_ _) | (with_reducible refine Own.drawn ?_) | (with_reducible refine Own.made_at ?_; first | rfl | (simp; done) | omega | (simp; omega)) | (with_reducible refine Own.more ?_ _) | (with_reducible refine Own.apart ?_ ?_ _ _; rotate_left; first | omega | (simp; done) | (simp; omega)) | (refine Own.put ?_ _ _)), ?_⟩; simp [go_sem, *]; done)
          | (obtain ⟨kb, k0, k1, k2, f0, f1, f2, f3, f4, f5, f6, f7⟩ := ‹Below w.heap.size w _ ∧ _›; exact ⟨then_ kb hbN kb.size, k0.keep hbN, k1.keep hbN, k2.keep hbN, keep hbN f0, keep hbN f1, keep hbN f2, keep hbN f3, keep hbN f4, keep hbN f5, keep hbN f6, keep hbN f7⟩))
        (first
          | (go_at_call 25; with_reducible refine (SHH.out _).mono ?_; rintro e wN ⟨rfl, hbN⟩))
      rename_i hh
      obtain ⟨hBe, OAe, ORe, OMe, -⟩ := hh
      clear A1 A2 A3 R1 R2 R3 OA OR hB hb1
      obtain ⟨R1, R2, R3⟩ := ORe.at_
      obtain ⟨M1, M2, M3⟩ := OMe.at_
      go_wp2
      try simp only [setCell_drawn]
      refine bodyPost_ret (by simp [results, Tryd.results24, go_sem, R1]) rfl ⟨rfl, ?_⟩
      repeat' (first | (with_reducible exact Below.refl _ _) | (with_reducible assumption) | (with_reducible refine below_drewN ?_ _) | (with_reducible refine Below.drew ?_) | (with_reducible refine Below.alloc ?_ ?_ _) | (with_reducible refine Below.setCell ?_ ?_ _) | (with_reducible refine then_ ?_ (by with_reducible assumption) ?_) | (with_reducible exact Nat.le_refl _) | (with_reducible exact Nat.le_succ _) | (with_reducible exact Nat.le_succ_of_le (by with_reducible assumption)) | omega | (simp; done) | (simp; omega) | (exact Nat.le_succ _) | (exact Nat.le_succ_of_le (by with_reducible assumption)))
    exact goal.mono fun e w' ⟨he, hw⟩ => ⟨fun h => absurd h hf, fun _ => he, hw⟩
end Go.Proofs.YtdnjkminicmffaaDoor
