/- merged: The contracts of wide.turned, Of, length. Conditions: those that each theorem names. The contract of wide.divide: the short ways. Conditions: sizes, b not nought. -/
import Derived.Test.YtoondjildbanhaaDoorShelf
import Derived.Test.YtoondjildbanhaaDoorWideU
import Derived.Test.YtoondjildbanhaaDoorRatM
import Derived.Lib.ItoaNum
import Derived.WalkSpells
import Derived.Handy
import Derived.Test.YtoondjildbanhaaDoorDivM
import Derived.Test.YtoondjildbanhaaDoorWideB
import Derived.Test.YtoondjildbanhaaDoorWideS
section
namespace Go.Proofs.YtoondjildbanhaaDoor
open Go.ChangeShapes Go.WideShapes Go.ChangeAt Go.RowKit
set_option linter.unusedVariables false

theorem xor_max (x : Int) (h0 : 0 ≤ x) (h1 : x ≤ 18446744073709551615) : bits BinOp.xor IntKind.u64 IntKind.u64.max x = 18446744073709551615 - x := by
  obtain ⟨n, rfl⟩ := Int.eq_ofNat_of_zero_le h0
  have e : IntKind.u64.max = ((18446744073709551615 : Nat) : Int) := rfl
  rw [e]
  refine (u64_xor_nat 18446744073709551615 n (by omega) (by omega)).trans ?_
  rw [Nat.xor_comm]
  have h1 : (BitVec.ofNat 64 n ^^^ BitVec.allOnes 64).toNat = n ^^^ 18446744073709551615 := by
    rw [BitVec.toNat_xor, BitVec.toNat_ofNat, BitVec.toNat_allOnes, Nat.mod_eq_of_lt (by omega)]
  rw [← h1, BitVec.xor_allOnes, BitVec.toNat_not, BitVec.toNat_ofNat, Nat.mod_eq_of_lt (by omega)]
  omega
theorem L_turn (z : Int) : 18446744073709551615 - L0 z = L0 (-z - 1) ∧ 18446744073709551615 - L1 z = L1 (-z - 1) ∧ 18446744073709551615 - L2 z = L2 (-z - 1) ∧ 18446744073709551615 - L3 z = L3 (-z - 1) := by
  unfold L0 L1 L2 L3; omega
theorem L_of (n : Int) (h0 : -9223372036854775808 ≤ n) (h1 : n ≤ 9223372036854775807) : IntKind.u64.wrap n = L0 n ∧ IntKind.u64.wrap (n / 9223372036854775808) = L1 n ∧ IntKind.u64.wrap (n / 9223372036854775808) = L2 n ∧ IntKind.u64.wrap (n / 9223372036854775808) = L3 n := by
  simp only [IntKind.wrap_u64]
  unfold L0 L1 L2 L3
  by_cases h : n < 0
  · have e1 : n / 9223372036854775808 = -1 := by omega
    have e2 : n / 18446744073709551616 = -1 := by omega
    rw [e1, e2]; exact ⟨rfl, by decide, by decide, by decide⟩
  · have e1 : n / 9223372036854775808 = 0 := by omega
    have e2 : n / 18446744073709551616 = 0 := by omega
    rw [e1, e2]; exact ⟨rfl, by decide, by decide, by decide⟩
theorem of_any (n : Int) (h0 : -9223372036854775808 ≤ n) (h1 : n ≤ 9223372036854775807) (w : World) :
    Calls Tryd.prog 33 #[.int .i64 n] w fun e w' => e = .returned (.agg #[.int .u64 (L0 n), .int .u64 (L1 n), .int .u64 (L2 n), .int .u64 (L3 n)]) ∧ ∃ c1, w' = (w.alloc (.cells c1 24)) := by
  obtain ⟨t0, t1, t2, t3⟩ := L_of n h0 h1
  rw [← t0, ← t3]
  rw [show L1 n = IntKind.u64.wrap (n / 9223372036854775808) from t1.symm, show L2 n = IntKind.u64.wrap (n / 9223372036854775808) from t2.symm]
  clear t0 t1 t2 t3
  go_enter Tryd.func33, Tryd.ntmps33
  go_wp2
  exact bodyPost_ret (by simp [results, Tryd.results33, go_sem]) rfl ⟨rfl, _, rfl⟩
/-- how many bits a word needs, a number of four -/
def wl (x : Int) : Int := Lib.bitLen x.toNat
def bl4 (x0 x1 x2 x3 : Int) : Int := if x3 = 0 then if x2 = 0 then if x1 = 0 then wl x0 else 64 + wl x1 else 128 + wl x2 else 192 + wl x3
theorem wl_le (x : Int) (h0 : 0 ≤ x) (h1 : x ≤ 18446744073709551615) : 0 ≤ wl x ∧ wl x ≤ 64 ∧ x < 2 ^ (wl x).toNat ∧ (x = 0 → wl x = 0) ∧ (x ≠ 0 → 1 ≤ wl x ∧ 2 ^ (wl x - 1).toNat ≤ x) := by
  obtain ⟨n, rfl⟩ := Int.eq_ofNat_of_zero_le h0
  unfold wl Lib.bitLen
  by_cases hn : n = 0
  · subst hn
    simp [Lib.bitLenAux]
  · obtain ⟨b1, b2, b3⟩ := Lib.bitLenAux_bounds 64 n (by omega) hn
    have b4 : Lib.bitLenAux 64 n ≤ 64 := Lib.bitLenAux_le 64 n 64 (by omega)
    have en : ((n : Int).toNat) = n := by omega
    rw [en]
    generalize Lib.bitLenAux 64 n = l at *
    refine ⟨by omega, by omega, ?_, by omega, fun _ => ⟨by omega, ?_⟩⟩
    · have : ((2 : Int) ^ (l : Int).toNat) = ((2 ^ l : Nat) : Int) := by rw [Int.toNat_natCast]; push_cast; rfl
      rw [this]; omega
    · have : ((2 : Int) ^ ((l : Int) - 1).toNat) = ((2 ^ (l - 1) : Nat) : Int) := by rw [show ((l : Int) - 1).toNat = l - 1 by omega]; push_cast; rfl
      rw [this]; omega
theorem length_gen (x0 x1 x2 x3 : Int) (h : W4 x0 x1 x2 x3) (w : World) :
    Calls Tryd.prog 73 #[.agg #[.int .u64 x0, .int .u64 x1, .int .u64 x2, .int .u64 x3]] w fun e w' => e = .returned (.int .i64 (bl4 x0 x1 x2 x3)) ∧ ∃ c1, w' = (w.alloc (.cells c1 81)) := by
  obtain ⟨a0, b0, a1, b1, a2, b2, a3, b3⟩ := h
  obtain ⟨k0, l0, _⟩ := wl_le x0 a0 b0
  obtain ⟨k1, l1, _⟩ := wl_le x1 a1 b1
  obtain ⟨k2, l2, _⟩ := wl_le x2 a2 b2
  obtain ⟨k3, l3, _⟩ := wl_le x3 a3 b3
  have LN : ∀ (x : Int), 0 ≤ x → x ≤ 18446744073709551615 → ∀ w, Calls Tryd.prog 84 #[.int .u64 x] w fun e w' => e = .returned (.int .i64 (wl x)) ∧ w' = w := fun x h0 h1 w => Tryd.bits_Len64 x w h0 h1
  have N0 := Lib.hid (LN x0 a0 b0); have N1 := Lib.hid (LN x1 a1 b1); have N2 := Lib.hid (LN x2 a2 b2); have N3 := Lib.hid (LN x3 a3 b3)
  clear LN
  by_cases e3 : x3 = 0
  · by_cases e2 : x2 = 0
    · by_cases e1 : x1 = 0
      · have E : bl4 x0 x1 x2 x3 = wl x0 := by simp [bl4, e1, e2, e3]
        have d1 : (x1 != 0) = false := by simpa using e1
        have d2 : (x2 != 0) = false := by simpa using e2
        have d3 : (x3 != 0) = false := by simpa using e3
        rw [E]
        clear e1 e2 e3 E
        generalize wl x0 = v at *
        go_enter Tryd.func73, Tryd.ntmps73
        go_wp2
        refine wp_loop_rounds 5 ?_
        rw [rounds_succ]
        go_wp2
        rw [rounds_succ]
        go_wp2
        rw [rounds_succ]
        go_wp2
        rw [rounds_succ]
        go_wp2_with (go_at_call 84; refine (N0.out _).mono ?_; rintro e w' ⟨rfl, rfl⟩)
        go_ret
        exact ⟨rfl, _, rfl⟩
      · have E : bl4 x0 x1 x2 x3 = 64 + wl x1 := by simp [bl4, e1, e2, e3]
        have d1 : (x1 != 0) = true := by simpa using e1
        have d2 : (x2 != 0) = false := by simpa using e2
        have d3 : (x3 != 0) = false := by simpa using e3
        rw [E]
        clear e1 e2 e3 E
        generalize wl x1 = v at *
        go_enter Tryd.func73, Tryd.ntmps73
        go_wp2
        refine wp_loop_rounds 5 ?_
        rw [rounds_succ]
        go_wp2
        rw [rounds_succ]
        go_wp2
        rw [rounds_succ]
        go_wp2_with (go_at_call 84; refine (N1.out _).mono ?_; rintro e w' ⟨rfl, rfl⟩)
        go_ret
        exact ⟨rfl, _, rfl⟩
    · have E : bl4 x0 x1 x2 x3 = 128 + wl x2 := by simp [bl4, e2, e3]
      have d2 : (x2 != 0) = true := by simpa using e2
      have d3 : (x3 != 0) = false := by simpa using e3
      rw [E]
      clear e2 e3 E
      generalize wl x2 = v at *
      go_enter Tryd.func73, Tryd.ntmps73
      go_wp2
      refine wp_loop_rounds 5 ?_
      rw [rounds_succ]
      go_wp2
      rw [rounds_succ]
      go_wp2_with (go_at_call 84; refine (N2.out _).mono ?_; rintro e w' ⟨rfl, rfl⟩)
      go_ret
      exact ⟨rfl, _, rfl⟩
  · have E : bl4 x0 x1 x2 x3 = 192 + wl x3 := by simp [bl4, e3]
    have d3 : (x3 != 0) = true := by simpa using e3
    rw [E]
    clear e3 E
    generalize wl x3 = v at *
    go_enter Tryd.func73, Tryd.ntmps73
    go_wp2
    refine wp_loop_rounds 5 ?_
    rw [rounds_succ]
    go_wp2_with (go_at_call 84; refine (N3.out _).mono ?_; rintro e w' ⟨rfl, rfl⟩)
    go_ret
    exact ⟨rfl, _, rfl⟩
/-- how many bits a number needs -/
def blz (a : Int) : Int := bl4 (L0 a) (L1 a) (L2 a) (L3 a)
theorem length_any (a : Int) (w : World) : Calls Tryd.prog 73 #[.agg #[.int .u64 (L0 a), .int .u64 (L1 a), .int .u64 (L2 a), .int .u64 (L3 a)]] w fun e w' => e = .returned (.int .i64 (blz a)) ∧ ∃ c1, w' = (w.alloc (.cells c1 81)) := length_gen _ _ _ _ (W4.of a) w
theorem pow_up (n : Nat) (l : Int) (h : 0 ≤ l) : (2 : Int) ^ ((n : Int) + l).toNat = 2 ^ n * 2 ^ l.toNat := by
  rw [show ((n : Int) + l).toNat = n + l.toNat by omega, Int.pow_add]
theorem bl_prop (a : Int) (h : Siz a) : 0 ≤ blz a ∧ blz a ≤ 256 ∧ a < 2 ^ (blz a).toNat ∧ (a ≠ 0 → 1 ≤ blz a ∧ 2 ^ (blz a - 1).toNat ≤ a) := by
  obtain ⟨a0, b0, a1, b1, a2, b2, a3, b3⟩ := W4.of a
  obtain ⟨h0, h1⟩ := h
  have e : a = L0 a + 18446744073709551616 * L1 a + 340282366920938463463374607431768211456 * L2 a + 6277101735386680763835789423207666416102355444464034512896 * L3 a := by unfold L0 L1 L2 L3; omega
  unfold blz bl4
  obtain ⟨k0, l0, m0, n0, o0⟩ := wl_le _ a0 b0
  obtain ⟨k1, l1, m1, n1, o1⟩ := wl_le _ a1 b1
  obtain ⟨k2, l2, m2, n2, o2⟩ := wl_le _ a2 b2
  obtain ⟨k3, l3, m3, n3, o3⟩ := wl_le _ a3 b3
  generalize L0 a = x0 at *; generalize L1 a = x1 at *; generalize L2 a = x2 at *; generalize L3 a = x3 at *
  have p1 : (2 : Int) ^ 64 = 18446744073709551616 := by decide +kernel
  have p2 : (2 : Int) ^ 128 = 340282366920938463463374607431768211456 := by decide +kernel
  have p3 : (2 : Int) ^ 192 = 6277101735386680763835789423207666416102355444464034512896 := by decide +kernel
  by_cases e3 : x3 = 0
  · rw [if_pos e3]
    by_cases e2 : x2 = 0
    · rw [if_pos e2]
      by_cases e1 : x1 = 0
      · rw [if_pos e1]
        refine ⟨k0, by omega, by omega, fun hn => ?_⟩
        obtain ⟨q1, q2⟩ := o0 (by omega)
        exact ⟨q1, by omega⟩
      · rw [if_neg e1]
        obtain ⟨q1, q2⟩ := o1 e1
        have r1 := pow_up 64 (wl x1) k1
        have r2 := pow_up 64 (wl x1 - 1) (by omega)
        rw [p1] at r1 r2
        have r3 : (((64 : Nat) : Int) + (wl x1 - 1)) = 64 + wl x1 - 1 := by omega
        rw [r3] at r2
        refine ⟨by omega, by omega, ?_, fun _ => ⟨by omega, ?_⟩⟩
        · rw [show (64 + wl x1).toNat = (((64 : Nat) : Int) + wl x1).toNat from rfl, r1]; omega
        · rw [r2]; omega
    · rw [if_neg e2]
      obtain ⟨q1, q2⟩ := o2 e2
      have r1 := pow_up 128 (wl x2) k2
      have r2 := pow_up 128 (wl x2 - 1) (by omega)
      rw [p2] at r1 r2
      have r3 : (((128 : Nat) : Int) + (wl x2 - 1)) = 128 + wl x2 - 1 := by omega
      rw [r3] at r2
      refine ⟨by omega, by omega, ?_, fun _ => ⟨by omega, ?_⟩⟩
      · rw [show (128 + wl x2).toNat = (((128 : Nat) : Int) + wl x2).toNat from rfl, r1]; omega
      · rw [r2]; omega
  · rw [if_neg e3]
    obtain ⟨q1, q2⟩ := o3 e3
    have r1 := pow_up 192 (wl x3) k3
    have r2 := pow_up 192 (wl x3 - 1) (by omega)
    rw [p3] at r1 r2
    have r3 : (((192 : Nat) : Int) + (wl x3 - 1)) = 192 + wl x3 - 1 := by omega
    rw [r3] at r2
    refine ⟨by omega, by omega, ?_, fun _ => ⟨by omega, ?_⟩⟩
    · rw [show (192 + wl x3).toNat = (((192 : Nat) : Int) + wl x3).toNat from rfl, r1]; omega
    · rw [r2]; omega
end Go.Proofs.YtoondjildbanhaaDoor
end
section
namespace Go.Proofs.YtoondjildbanhaaDoor
open Go.ChangeShapes Go.WideShapes Go.ChangeAt Go.RowKit
set_option linter.unusedVariables false

theorem minus_b (a b : Int) (w : World) :
    Calls Tryd.prog 62 #[.agg #[.int .u64 (L0 a), .int .u64 (L1 a), .int .u64 (L2 a), .int .u64 (L3 a)], .agg #[.int .u64 (L0 b), .int .u64 (L1 b), .int .u64 (L2 b), .int .u64 (L3 b)]] w fun e w' => e = .returned (.agg #[.int .u64 (L0 (a - b)), .int .u64 (L1 (a - b)), .int .u64 (L2 (a - b)), .int .u64 (L3 (a - b))]) ∧ Below w.heap.size w w' :=
  (minus_any a b w).mono fun e w' ⟨he, c1, c2, c3, c4, m, hw⟩ => ⟨he, by rw [hw]; repeat' (first | (with_reducible exact Below.refl _ _) | (with_reducible assumption) | (with_reducible refine below_drewN ?_ _) | (with_reducible refine Below.drew ?_) | (with_reducible refine Below.alloc ?_ ?_ _) | (with_reducible refine Below.setCell ?_ ?_ _) | (with_reducible refine then_ ?_ (by with_reducible assumption) ?_) | (with_reducible exact Nat.le_refl _) | (with_reducible exact Nat.le_succ _) | (with_reducible exact Nat.le_succ_of_le (by with_reducible assumption)) | omega | (simp; done) | (simp; omega) | (exact Nat.le_succ _) | (exact Nat.le_succ_of_le (by with_reducible assumption)))⟩
theorem down_b (a n : Int) (h : Siz a) (hn : 0 ≤ n) (hn' : n ≤ 9223372036854775807) (w : World) :
    Calls Tryd.prog 75 #[.agg #[.int .u64 (L0 a), .int .u64 (L1 a), .int .u64 (L2 a), .int .u64 (L3 a)], .int .i64 n] w fun e w' => e = .returned (.agg #[.int .u64 (L0 (a / 2 ^ n.toNat)), .int .u64 (L1 (a / 2 ^ n.toNat)), .int .u64 (L2 (a / 2 ^ n.toNat)), .int .u64 (L3 (a / 2 ^ n.toNat))]) ∧ Below w.heap.size w w' :=
  (down_any a n h hn hn' w).mono fun e w' ⟨he, c1, c2, c3, m, hw⟩ => ⟨he, by rw [hw]; repeat' (first | (with_reducible exact Below.refl _ _) | (with_reducible assumption) | (with_reducible refine below_drewN ?_ _) | (with_reducible refine Below.drew ?_) | (with_reducible refine Below.alloc ?_ ?_ _) | (with_reducible refine Below.setCell ?_ ?_ _) | (with_reducible refine then_ ?_ (by with_reducible assumption) ?_) | (with_reducible exact Nat.le_refl _) | (with_reducible exact Nat.le_succ _) | (with_reducible exact Nat.le_succ_of_le (by with_reducible assumption)) | omega | (simp; done) | (simp; omega) | (exact Nat.le_succ _) | (exact Nat.le_succ_of_le (by with_reducible assumption)))⟩
theorem up_b (a n : Int) (hn : 0 ≤ n) (hn' : n ≤ 9223372036854775807) (w : World) :
    Calls Tryd.prog 74 #[.agg #[.int .u64 (L0 a), .int .u64 (L1 a), .int .u64 (L2 a), .int .u64 (L3 a)], .int .i64 n] w fun e w' => e = .returned (.agg #[.int .u64 (L0 (a * 2 ^ n.toNat)), .int .u64 (L1 (a * 2 ^ n.toNat)), .int .u64 (L2 (a * 2 ^ n.toNat)), .int .u64 (L3 (a * 2 ^ n.toNat))]) ∧ Below w.heap.size w w' :=
  (up_any a n hn hn' w).mono fun e w' ⟨he, c1, c2, c3, m, hw⟩ => ⟨he, by rw [hw]; repeat' (first | (with_reducible exact Below.refl _ _) | (with_reducible assumption) | (with_reducible refine below_drewN ?_ _) | (with_reducible refine Below.drew ?_) | (with_reducible refine Below.alloc ?_ ?_ _) | (with_reducible refine Below.setCell ?_ ?_ _) | (with_reducible refine then_ ?_ (by with_reducible assumption) ?_) | (with_reducible exact Nat.le_refl _) | (with_reducible exact Nat.le_succ _) | (with_reducible exact Nat.le_succ_of_le (by with_reducible assumption)) | omega | (simp; done) | (simp; omega) | (exact Nat.le_succ _) | (exact Nat.le_succ_of_le (by with_reducible assumption)))⟩
theorem cmp_siz {r s : Int} (hr : Siz r) (hs : Siz s) : cmpW (Lf r) (Lf s) 4 = if r < s then -1 else if s < r then 1 else 0 := by
  obtain ⟨h0, h1⟩ := hr; obtain ⟨h2, h3⟩ := hs
  have e : ∀ z : Int, 0 ≤ z → z ≤ 115792089237316195423570985008687907853269984665640564039457584007913129639935 → z = L0 z + 18446744073709551616 * L1 z + 340282366920938463463374607431768211456 * L2 z + 6277101735386680763835789423207666416102355444464034512896 * L3 z := fun z _ _ => by unfold L0 L1 L2 L3; omega
  have er := e r h0 h1; have es := e s h2 h3
  obtain ⟨a0, b0, a1, b1, a2, b2, a3, b3⟩ := W4.of r
  obtain ⟨c0, d0, c1, d1, c2, d2, c3, d3⟩ := W4.of s
  unfold cmpW cmpW cmpW cmpW cmpW Lf
  simp only []
  generalize L0 r = x0 at *; generalize L1 r = x1 at *; generalize L2 r = x2 at *; generalize L3 r = x3 at *
  generalize L0 s = y0 at *; generalize L1 s = y1 at *; generalize L2 s = y2 at *; generalize L3 s = y3 at *
  repeat' split
  all_goals first | rfl | omega
theorem eq_first (x0 x1 x2 x3 : Int) (w : World) : (Op.equalIn 10000 81 (.agg #[.int .u64 x0, .int .u64 x1, .int .u64 x2, .int .u64 x3]) (.agg #[.int .u64 x0, .int .u64 0, .int .u64 0, .int .u64 0])).run Tryd.prog w = .ok (decide (x1 = 0 ∧ x2 = 0 ∧ x3 = 0)) w := by
  rw [eq_size]; simp
set_option maxRecDepth 20000 in
theorem divide_small (x y : Int) (h0 : 0 ≤ x) (h1 : x ≤ 18446744073709551615) (h2 : 0 < y) (h3 : y ≤ 18446744073709551615) (w : World) :
    Calls Tryd.prog 61 #[.agg #[.int .u64 x, .int .u64 0, .int .u64 0, .int .u64 0], .agg #[.int .u64 y, .int .u64 0, .int .u64 0, .int .u64 0]] w fun e w' =>
      e = .returned (.tuple #[.agg #[.int .u64 (x / y), .int .u64 0, .int .u64 0, .int .u64 0], .agg #[.int .u64 (x % y), .int .u64 0, .int .u64 0, .int .u64 0]]) ∧ Below w.heap.size w w' := by
  have EA : ∀ w, (Op.equalIn 10000 81 (.agg #[.int .u64 x, .int .u64 0, .int .u64 0, .int .u64 0]) (.agg #[.int .u64 x, .int .u64 0, .int .u64 0, .int .u64 0])).run Tryd.prog w = .ok true w := fun w => by rw [eq_first]; rfl
  have EB : ∀ w, (Op.equalIn 10000 81 (.agg #[.int .u64 y, .int .u64 0, .int .u64 0, .int .u64 0]) (.agg #[.int .u64 y, .int .u64 0, .int .u64 0, .int .u64 0])).run Tryd.prog w = .ok true w := fun w => by rw [eq_first]; rfl
  have d : (y == 0) = false := by simpa using (by omega : y ≠ 0)
  go_enter Tryd.func61, Tryd.ntmps61
  go_wp2
  go_region
  all_goals go_wp2
  try simp only [setCell_drawn]
  refine bodyPost_ret (by simp [results, Tryd.results61, go_sem]) rfl ⟨rfl, ?_⟩
  repeat' (first | (with_reducible exact Below.refl _ _) | (with_reducible assumption) | (with_reducible refine below_drewN ?_ _) | (with_reducible refine Below.drew ?_) | (with_reducible refine Below.alloc ?_ ?_ _) | (with_reducible refine Below.setCell ?_ ?_ _) | (with_reducible refine then_ ?_ (by with_reducible assumption) ?_) | (with_reducible exact Nat.le_refl _) | (with_reducible exact Nat.le_succ _) | (with_reducible exact Nat.le_succ_of_le (by with_reducible assumption)) | omega | (simp; done) | (simp; omega) | (exact Nat.le_succ _) | (exact Nat.le_succ_of_le (by with_reducible assumption)))
set_option maxHeartbeats 1600000 in
set_option maxRecDepth 20000 in
theorem divide_less_f (a b : Int) (hsa : decide (L1 a = 0 ∧ L2 a = 0 ∧ L3 a = 0) = false) (la lb : Int) (hla : blz a = la) (hlb : blz b = lb) (ha : 0 ≤ la) (ha2 : la ≤ 256) (hb : lb ≤ 256) (hb0 : 0 ≤ lb) (hl : la < lb) (w : World) :
    Calls Tryd.prog 61 #[.agg #[.int .u64 (L0 a), .int .u64 (L1 a), .int .u64 (L2 a), .int .u64 (L3 a)], .agg #[.int .u64 (L0 b), .int .u64 (L1 b), .int .u64 (L2 b), .int .u64 (L3 b)]] w fun e w' => e = .returned (.tuple #[.agg #[.int .u64 0, .int .u64 0, .int .u64 0, .int .u64 0], .agg #[.int .u64 (L0 a), .int .u64 (L1 a), .int .u64 (L2 a), .int .u64 (L3 a)]]) ∧ Below w.heap.size w w' := by
  have EA : ∀ w, (Op.equalIn 10000 81 (.agg #[.int .u64 (L0 a), .int .u64 (L1 a), .int .u64 (L2 a), .int .u64 (L3 a)]) (.agg #[.int .u64 (L0 a), .int .u64 0, .int .u64 0, .int .u64 0])).run Tryd.prog w = .ok false w := fun w => by rw [eq_first, hsa]
  have LA := Lib.hid (fun w => length_any a w); rw [hla] at LA
  have LB := Lib.hid (fun w => length_any b w); rw [hlb] at LB
  clear hla hlb hsa
  generalize L0 a = x0 at *; generalize L1 a = x1 at *; generalize L2 a = x2 at *; generalize L3 a = x3 at *
  generalize L0 b = y0 at *; generalize L1 b = y1 at *; generalize L2 b = y2 at *; generalize L3 b = y3 at *
  · go_enter Tryd.func61, Tryd.ntmps61
    go_wp2
    go_region_held3 (fun W => W.cell? ⟨w.heap.size, 0, none⟩ = some (.int .u64 x0) ∧ W.cell? ⟨w.heap.size, 1, none⟩ = some (.int .u64 x1) ∧ W.cell? ⟨w.heap.size, 2, none⟩ = some (.int .u64 x2) ∧ W.cell? ⟨w.heap.size, 3, none⟩ = some (.int .u64 x3) ∧ W.cell? ⟨w.heap.size + 1, 0, none⟩ = some (.int .u64 y0) ∧ W.cell? ⟨w.heap.size + 1, 1, none⟩ = some (.int .u64 y1) ∧ W.cell? ⟨w.heap.size + 1, 2, none⟩ = some (.int .u64 y2) ∧ W.cell? ⟨w.heap.size + 1, 3, none⟩ = some (.int .u64 y3)) (simp [go_sem, World.cell?_alloc_past])
      (first
        | (go_at_call 73; with_reducible refine (LA.out _).mono ?_; rintro e w2 ⟨rfl, c, rfl⟩)
        | (go_at_call 73; with_reducible refine (LB.out _).mono ?_; rintro e w2 ⟨rfl, c, rfl⟩))
    rename_i hh; clear hh
    go_wp2
    go_region
    all_goals go_wp2
    try simp only [setCell_drawn]
    refine bodyPost_ret (by simp [results, Tryd.results61, go_sem]) rfl ⟨rfl, ?_⟩
    repeat' (first | (with_reducible exact Below.refl _ _) | (with_reducible assumption) | (with_reducible refine below_drewN ?_ _) | (with_reducible refine Below.drew ?_) | (with_reducible refine Below.alloc ?_ ?_ _) | (with_reducible refine Below.setCell ?_ ?_ _) | (with_reducible refine then_ ?_ (by with_reducible assumption) ?_) | (with_reducible exact Nat.le_refl _) | (with_reducible exact Nat.le_succ _) | (with_reducible exact Nat.le_succ_of_le (by with_reducible assumption)) | omega | (simp; done) | (simp; omega) | (exact Nat.le_succ _) | (exact Nat.le_succ_of_le (by with_reducible assumption)))
set_option maxHeartbeats 1600000 in
set_option maxRecDepth 20000 in
theorem divide_less_t (a b : Int) (hsa : decide (L1 a = 0 ∧ L2 a = 0 ∧ L3 a = 0) = true) (hsb : decide (L1 b = 0 ∧ L2 b = 0 ∧ L3 b = 0) = false) (la lb : Int) (hla : blz a = la) (hlb : blz b = lb) (ha : 0 ≤ la) (ha2 : la ≤ 256) (hb : lb ≤ 256) (hb0 : 0 ≤ lb) (hl : la < lb) (w : World) :
    Calls Tryd.prog 61 #[.agg #[.int .u64 (L0 a), .int .u64 (L1 a), .int .u64 (L2 a), .int .u64 (L3 a)], .agg #[.int .u64 (L0 b), .int .u64 (L1 b), .int .u64 (L2 b), .int .u64 (L3 b)]] w fun e w' => e = .returned (.tuple #[.agg #[.int .u64 0, .int .u64 0, .int .u64 0, .int .u64 0], .agg #[.int .u64 (L0 a), .int .u64 (L1 a), .int .u64 (L2 a), .int .u64 (L3 a)]]) ∧ Below w.heap.size w w' := by
  have EA : ∀ w, (Op.equalIn 10000 81 (.agg #[.int .u64 (L0 a), .int .u64 (L1 a), .int .u64 (L2 a), .int .u64 (L3 a)]) (.agg #[.int .u64 (L0 a), .int .u64 0, .int .u64 0, .int .u64 0])).run Tryd.prog w = .ok true w := fun w => by rw [eq_first, hsa]
  have EB : ∀ w, (Op.equalIn 10000 81 (.agg #[.int .u64 (L0 b), .int .u64 (L1 b), .int .u64 (L2 b), .int .u64 (L3 b)]) (.agg #[.int .u64 (L0 b), .int .u64 0, .int .u64 0, .int .u64 0])).run Tryd.prog w = .ok false w := fun w => by rw [eq_first, hsb]
  have LA := Lib.hid (fun w => length_any a w); rw [hla] at LA
  have LB := Lib.hid (fun w => length_any b w); rw [hlb] at LB
  clear hla hlb hsa hsb
  generalize L0 a = x0 at *; generalize L1 a = x1 at *; generalize L2 a = x2 at *; generalize L3 a = x3 at *
  generalize L0 b = y0 at *; generalize L1 b = y1 at *; generalize L2 b = y2 at *; generalize L3 b = y3 at *
  · go_enter Tryd.func61, Tryd.ntmps61
    go_wp2
    go_region_held3 (fun W => W.cell? ⟨w.heap.size, 0, none⟩ = some (.int .u64 x0) ∧ W.cell? ⟨w.heap.size, 1, none⟩ = some (.int .u64 x1) ∧ W.cell? ⟨w.heap.size, 2, none⟩ = some (.int .u64 x2) ∧ W.cell? ⟨w.heap.size, 3, none⟩ = some (.int .u64 x3) ∧ W.cell? ⟨w.heap.size + 1, 0, none⟩ = some (.int .u64 y0) ∧ W.cell? ⟨w.heap.size + 1, 1, none⟩ = some (.int .u64 y1) ∧ W.cell? ⟨w.heap.size + 1, 2, none⟩ = some (.int .u64 y2) ∧ W.cell? ⟨w.heap.size + 1, 3, none⟩ = some (.int .u64 y3)) (simp [go_sem, World.cell?_alloc_past])
      (first
        | (go_at_call 73; with_reducible refine (LA.out _).mono ?_; rintro e w2 ⟨rfl, c, rfl⟩)
        | (go_at_call 73; with_reducible refine (LB.out _).mono ?_; rintro e w2 ⟨rfl, c, rfl⟩))
    rename_i hh; clear hh
    go_wp2
    go_region
    all_goals go_wp2
    try simp only [setCell_drawn]
    refine bodyPost_ret (by simp [results, Tryd.results61, go_sem]) rfl ⟨rfl, ?_⟩
    repeat' (first | (with_reducible exact Below.refl _ _) | (with_reducible assumption) | (with_reducible refine below_drewN ?_ _) | (with_reducible refine Below.drew ?_) | (with_reducible refine Below.alloc ?_ ?_ _) | (with_reducible refine Below.setCell ?_ ?_ _) | (with_reducible refine then_ ?_ (by with_reducible assumption) ?_) | (with_reducible exact Nat.le_refl _) | (with_reducible exact Nat.le_succ _) | (with_reducible exact Nat.le_succ_of_le (by with_reducible assumption)) | omega | (simp; done) | (simp; omega) | (exact Nat.le_succ _) | (exact Nat.le_succ_of_le (by with_reducible assumption)))
end Go.Proofs.YtoondjildbanhaaDoor
end
