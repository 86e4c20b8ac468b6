
/- The contracts of wide.turned, Of, length. Conditions: those that each theorem names. -/
import Derived.Test.YtigcbgehnlilaaaDoorShelf
import Derived.Test.YtigcbgehnlilaaaDoorEq
import Derived.Test.YtigcbgehnlilaaaDoorNum
import Derived.Lib.ItoaNum
import Derived.WalkSpells
import Derived.Handy
namespace Go.Proofs.YtigcbgehnlilaaaDoor
open Go.ChangeShapes Go.WideShapes Go.ChangeAt Go.RowKit
set_option linter.unusedVariables false

theorem L_of (n : Int) (h0 : -9223372036854775808 ≤ n) (h1 : n ≤ 9223372036854775807) : IntKind.u64.wrap n = L0 n ∧ IntKind.u64.wrap (n / 9223372036854775808) = L1 n ∧ IntKind.u64.wrap (n / 9223372036854775808) = L2 n ∧ IntKind.u64.wrap (n / 9223372036854775808) = L3 n := by
  simp only [IntKind.wrap_u64]
  unfold L0 L1 L2 L3
  by_cases h : n < 0
  · have e1 : n / 9223372036854775808 = -1 := by omega
    have e2 : n / 18446744073709551616 = -1 := by omega
    rw [e1, e2]; exact ⟨rfl, by decide, by decide, by decide⟩
  · have e1 : n / 9223372036854775808 = 0 := by omega
    have e2 : n / 18446744073709551616 = 0 := by omega
    rw [e1, e2]; exact ⟨rfl, by decide, by decide, by decide⟩
theorem of_any (n : Int) (h0 : -9223372036854775808 ≤ n) (h1 : n ≤ 9223372036854775807) (w : World) :
    Calls Tryd.prog 30 #[.int .i64 n] w fun e w' => e = .returned (.agg #[.int .u64 (L0 n), .int .u64 (L1 n), .int .u64 (L2 n), .int .u64 (L3 n)]) ∧ ∃ c1, w' = (w.alloc (.cells c1 24)) := by
  obtain ⟨t0, t1, t2, t3⟩ := L_of n h0 h1
  rw [← t0, ← t3]
  rw [show L1 n = IntKind.u64.wrap (n / 9223372036854775808) from t1.symm, show L2 n = IntKind.u64.wrap (n / 9223372036854775808) from t2.symm]
  clear t0 t1 t2 t3
  go_enter Tryd.func30, Tryd.ntmps30
  go_wp2
  exact bodyPost_ret (by simp [results, Tryd.results30, go_sem]) rfl ⟨rfl, _, rfl⟩
/-- how many bits a word needs, a number of four -/
def wl (x : Int) : Int := Lib.bitLen x.toNat
def bl4 (x0 x1 x2 x3 : Int) : Int := if x3 = 0 then if x2 = 0 then if x1 = 0 then wl x0 else 64 + wl x1 else 128 + wl x2 else 192 + wl x3
theorem wl_le (x : Int) (h0 : 0 ≤ x) (h1 : x ≤ 18446744073709551615) : 0 ≤ wl x ∧ wl x ≤ 64 ∧ x < 2 ^ (wl x).toNat ∧ (x = 0 → wl x = 0) ∧ (x ≠ 0 → 1 ≤ wl x ∧ 2 ^ (wl x - 1).toNat ≤ x) := by
  obtain ⟨n, rfl⟩ := Int.eq_ofNat_of_zero_le h0
  unfold wl Lib.bitLen
  by_cases hn : n = 0
  · subst hn
    simp [Lib.bitLenAux]
  · obtain ⟨b1, b2, b3⟩ := Lib.bitLenAux_bounds 64 n (by omega) hn
    have b4 : Lib.bitLenAux 64 n ≤ 64 := Lib.bitLenAux_le 64 n 64 (by omega)
    have en : ((n : Int).toNat) = n := by omega
    rw [en]
    generalize Lib.bitLenAux 64 n = l at *
    refine ⟨by omega, by omega, ?_, by omega, fun _ => ⟨by omega, ?_⟩⟩
    · have : ((2 : Int) ^ (l : Int).toNat) = ((2 ^ l : Nat) : Int) := by rw [Int.toNat_natCast]; push_cast; rfl
      rw [this]; omega
    · have : ((2 : Int) ^ ((l : Int) - 1).toNat) = ((2 ^ (l - 1) : Nat) : Int) := by rw [show ((l : Int) - 1).toNat = l - 1 by omega]; push_cast; rfl
      rw [this]; omega
theorem length_gen (x0 x1 x2 x3 : Int) (h : W4 x0 x1 x2 x3) (w : World) :
    Calls Tryd.prog 70 #[.agg #[.int .u64 x0, .int .u64 x1, .int .u64 x2, .int .u64 x3]] w fun e w' => e = .returned (.int .i64 (bl4 x0 x1 x2 x3)) ∧ ∃ c1, w' = (w.alloc (.cells c1 77)) := by
  obtain ⟨a0, b0, a1, b1, a2, b2, a3, b3⟩ := h
  obtain ⟨k0, l0, _⟩ := wl_le x0 a0 b0
  obtain ⟨k1, l1, _⟩ := wl_le x1 a1 b1
  obtain ⟨k2, l2, _⟩ := wl_le x2 a2 b2
  obtain ⟨k3, l3, _⟩ := wl_le x3 a3 b3
  have LN : ∀ (x : Int), 0 ≤ x → x ≤ 18446744073709551615 → ∀ w, Calls Tryd.prog 81 #[.int .u64 x] w fun e w' => e = .returned (.int .i64 (wl x)) ∧ w' = w := fun x h0 h1 w => Tryd.bits_Len64 x w h0 h1
  have N0 := Lib.hid (LN x0 a0 b0); have N1 := Lib.hid (LN x1 a1 b1); have N2 := Lib.hid (LN x2 a2 b2); have N3 := Lib.hid (LN x3 a3 b3)
  clear LN
  by_cases e3 : x3 = 0
  · by_cases e2 : x2 = 0
    · by_cases e1 : x1 = 0
      · have E : bl4 x0 x1 x2 x3 = wl x0 := by simp [bl4, e1, e2, e3]
        have d1 : (x1 != 0) = false := by simpa using e1
        have d2 : (x2 != 0) = false := by simpa using e2
        have d3 : (x3 != 0) = false := by simpa using e3
        rw [E]
        clear e1 e2 e3 E
        generalize wl x0 = v at *
        go_enter Tryd.func70, Tryd.ntmps70
        go_wp2
        refine wp_loop_rounds 5 ?_
        rw [rounds_succ]
        go_wp2
        rw [rounds_succ]
        go_wp2
        rw [rounds_succ]
        go_wp2
        rw [rounds_succ]
        go_wp2_with (go_at_call 81; refine (N0.out _).mono ?_; rintro e w' ⟨rfl, rfl⟩)
        go_ret
        exact ⟨rfl, _, rfl⟩
      · have E : bl4 x0 x1 x2 x3 = 64 + wl x1 := by simp [bl4, e1, e2, e3]
        have d1 : (x1 != 0) = true := by simpa using e1
        have d2 : (x2 != 0) = false := by simpa using e2
        have d3 : (x3 != 0) = false := by simpa using e3
        rw [E]
        clear e1 e2 e3 E
        generalize wl x1 = v at *
        go_enter Tryd.func70, Tryd.ntmps70
        go_wp2
        refine wp_loop_rounds 5 ?_
        rw [rounds_succ]
        go_wp2
        rw [rounds_succ]
        go_wp2
        rw [rounds_succ]
        go_wp2_with (go_at_call 81; refine (N1.out _).mono ?_; rintro e w' ⟨rfl, rfl⟩)
        go_ret
        exact ⟨rfl, _, rfl⟩
    · have E : bl4 x0 x1 x2 x3 = 128 + wl x2 := by simp [bl4, e2, e3]
      have d2 : (x2 != 0) = true := by simpa using e2
      have d3 : (x3 != 0) = false := by simpa using e3
      rw [E]
      clear e2 e3 E
      generalize wl x2 = v at *
      go_enter Tryd.func70, Tryd.ntmps70
      go_wp2
      refine wp_loop_rounds 5 ?_
      rw [rounds_succ]
      go_wp2
      rw [rounds_succ]
      go_wp2_with (go_at_call 81; refine (N2.out _).mono ?_; rintro e w' ⟨rfl, rfl⟩)
      go_ret
      exact ⟨rfl, _, rfl⟩
  · have E : bl4 x0 x1 x2 x3 = 192 + wl x3 := by simp [bl4, e3]
    have d3 : (x3 != 0) = true := by simpa using e3
    rw [E]
    clear e3 E
    generalize wl x3 = v at *
    go_enter Tryd.func70, Tryd.ntmps70
    go_wp2
    refine wp_loop_rounds 5 ?_
    rw [rounds_succ]
    go_wp2_with (go_at_call 81; refine (N3.out _).mono ?_; rintro e w' ⟨rfl, rfl⟩)
    go_ret
    exact ⟨rfl, _, rfl⟩
/-- how many bits a number needs -/
def blz (a : Int) : Int := bl4 (L0 a) (L1 a) (L2 a) (L3 a)
theorem length_any (a : Int) (w : World) : Calls Tryd.prog 70 #[.agg #[.int .u64 (L0 a), .int .u64 (L1 a), .int .u64 (L2 a), .int .u64 (L3 a)]] w fun e w' => e = .returned (.int .i64 (blz a)) ∧ ∃ c1, w' = (w.alloc (.cells c1 77)) := length_gen _ _ _ _ (W4.of a) w
theorem pow_up (n : Nat) (l : Int) (h : 0 ≤ l) : (2 : Int) ^ ((n : Int) + l).toNat = 2 ^ n * 2 ^ l.toNat := by
  rw [show ((n : Int) + l).toNat = n + l.toNat by omega, Int.pow_add]
theorem bl_prop (a : Int) (h : Siz a) : 0 ≤ blz a ∧ blz a ≤ 256 ∧ a < 2 ^ (blz a).toNat ∧ (a ≠ 0 → 1 ≤ blz a ∧ 2 ^ (blz a - 1).toNat ≤ a) := by
  obtain ⟨a0, b0, a1, b1, a2, b2, a3, b3⟩ := W4.of a
  obtain ⟨h0, h1⟩ := h
  have e : a = L0 a + 18446744073709551616 * L1 a + 340282366920938463463374607431768211456 * L2 a + 6277101735386680763835789423207666416102355444464034512896 * L3 a := by unfold L0 L1 L2 L3; omega
  unfold blz bl4
  obtain ⟨k0, l0, m0, n0, o0⟩ := wl_le _ a0 b0
  obtain ⟨k1, l1, m1, n1, o1⟩ := wl_le _ a1 b1
  obtain ⟨k2, l2, m2, n2, o2⟩ := wl_le _ a2 b2
  obtain ⟨k3, l3, m3, n3, o3⟩ := wl_le _ a3 b3
  generalize L0 a = x0 at *; generalize L1 a = x1 at *; generalize L2 a = x2 at *; generalize L3 a = x3 at *
  have p1 : (2 : Int) ^ 64 = 18446744073709551616 := by decide +kernel
  have p2 : (2 : Int) ^ 128 = 340282366920938463463374607431768211456 := by decide +kernel
  have p3 : (2 : Int) ^ 192 = 6277101735386680763835789423207666416102355444464034512896 := by decide +kernel
  by_cases e3 : x3 = 0
  · rw [if_pos e3]
    by_cases e2 : x2 = 0
    · rw [if_pos e2]
      by_cases e1 : x1 = 0
      · rw [if_pos e1]
        refine ⟨k0, by omega, by omega, fun hn => ?_⟩
        obtain ⟨q1, q2⟩ := o0 (by omega)
        exact ⟨q1, by omega⟩
      · rw [if_neg e1]
        obtain ⟨q1, q2⟩ := o1 e1
        have r1 := pow_up 64 (wl x1) k1
        have r2 := pow_up 64 (wl x1 - 1) (by omega)
        rw [p1] at r1 r2
        have r3 : (((64 : Nat) : Int) + (wl x1 - 1)) = 64 + wl x1 - 1 := by omega
        rw [r3] at r2
        refine ⟨by omega, by omega, ?_, fun _ => ⟨by omega, ?_⟩⟩
        · rw [show (64 + wl x1).toNat = (((64 : Nat) : Int) + wl x1).toNat from rfl, r1]; omega
        · rw [r2]; omega
    · rw [if_neg e2]
      obtain ⟨q1, q2⟩ := o2 e2
      have r1 := pow_up 128 (wl x2) k2
      have r2 := pow_up 128 (wl x2 - 1) (by omega)
      rw [p2] at r1 r2
      have r3 : (((128 : Nat) : Int) + (wl x2 - 1)) = 128 + wl x2 - 1 := by omega
      rw [r3] at r2
      refine ⟨by omega, by omega, ?_, fun _ => ⟨by omega, ?_⟩⟩
      · rw [show (128 + wl x2).toNat = (((128 : Nat) : Int) + wl x2).toNat from rfl, r1]; omega
      · rw [r2]; omega
  · rw [if_neg e3]
    obtain ⟨q1, q2⟩ := o3 e3
    have r1 := pow_up 192 (wl x3) k3
    have r2 := pow_up 192 (wl x3 - 1) (by omega)
    rw [p3] at r1 r2
    have r3 : (((192 : Nat) : Int) + (wl x3 - 1)) = 192 + wl x3 - 1 := by omega
    rw [r3] at r2
    refine ⟨by omega, by omega, ?_, fun _ => ⟨by omega, ?_⟩⟩
    · rw [show (192 + wl x3).toNat = (((192 : Nat) : Int) + wl x3).toNat from rfl, r1]; omega
    · rw [r2]; omega
end Go.Proofs.YtigcbgehnlilaaaDoor
