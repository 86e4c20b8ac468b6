/- merged: The contracts of wide.Sign, Small, Cmp, Shr. Conditions: numbers that a wide.Int can be. The contracts of wide.Shr, Small. Conditions: numbers that a wide.Int can be. The contract of wide.divide: the long way. Conditions: sizes, b not nought. The contract of wide.divide. Conditions: sizes, b not nought. The contract of wide.Div. Conditions: numbers that a wide.Int can be. The contract of wide.Gcd. Conditions: numbers that a wide.Int can be. The contracts of wide.Neg, Mul. Conditions: numbers that a wide.Int can be. -/
import Derived.Test.YtibnackmddigaaaWideC
import Derived.Test.YtibnackmddigaaaWideG
import Derived.IntWalk
import Derived.Test.YtibnackmddigaaaMemoW
import Derived.Deep.LoopGhost
import Derived.Test.YtibnackmddigaaaWideP
import Derived.Lib.Walk
import Derived.Deep.DeepCutAuto
import Derived.Deep.RegionHeld3
import Derived.Lib.ItoaWalk
section
namespace Go.Proofs.Ytibnackmddigaaa
open Go.ChangeShapes Go.WideShapes Go.ChangeAt Go.RowKit
set_option linter.unusedVariables false

/-- -1, 0 or 1 -/
def sgnZ (z : Int) : Int := if z < 0 then -1 else if z = 0 then 0 else 1
set_option maxRecDepth 20000 in
theorem sign_any (z : Int) (h : Fit z) (w : World) :
    Calls Try.prog 32 #[.agg #[.int .u64 (L0 z), .int .u64 (L1 z), .int .u64 (L2 z), .int .u64 (L3 z)]] w fun e w' => e = .returned (.int .i64 (sgnZ z)) ∧ ∃ c d, w' = w.alloc (.cells c 61) ∨ w' = (w.alloc (.cells c 61)).alloc (.cells d 61) := by
  have EQ : ∀ w, (Op.equalIn 10000 61 (.agg #[.int .u64 (L0 z), .int .u64 (L1 z), .int .u64 (L2 z), .int .u64 (L3 z)]) (.agg #[.int .u64 0, .int .u64 0, .int .u64 0, .int .u64 0])).run Try.prog w = .ok (decide (z = 0)) w := fun w => eq_fit h fit0 w
  have hn := ngB_fit h
  by_cases h0 : z = 0
  · rw [decide_eq_true h0] at EQ
    have e : sgnZ z = 0 := by rw [h0]; rfl
    rw [e]
    clear h0 hn h e
    generalize L0 z = x0 at *; generalize L1 z = x1 at *; generalize L2 z = x2 at *; generalize L3 z = x3 at *
    go_enter Try.func32, Try.ntmps32
    go_wp2
    go_ret
    exact ⟨rfl, _, #[], .inl rfl⟩
  · rw [decide_eq_false h0] at EQ
    by_cases h1 : z < 0
    · have e : sgnZ z = -1 := by unfold sgnZ; rw [if_pos h1]
      rw [decide_eq_true h1] at hn
      have B := Lib.hid (fun w => below_is hn w)
      rw [e]
      clear h0 hn h e h1
      generalize L0 z = x0 at *; generalize L1 z = x1 at *; generalize L2 z = x2 at *; generalize L3 z = x3 at *
      go_enter Try.func32, Try.ntmps32
      go_wp2_with (go_at_call 52; refine (B.out _).mono ?_; rintro e w1 ⟨rfl, c, rfl⟩)
      go_ret
      exact ⟨rfl, _, _, .inr rfl⟩
    · have e : sgnZ z = 1 := by unfold sgnZ; rw [if_neg h1, if_neg h0]
      rw [decide_eq_false h1] at hn
      have B := Lib.hid (fun w => below_is hn w)
      rw [e]
      clear h0 hn h e h1
      generalize L0 z = x0 at *; generalize L1 z = x1 at *; generalize L2 z = x2 at *; generalize L3 z = x3 at *
      go_enter Try.func32, Try.ntmps32
      go_wp2_with (go_at_call 52; refine (B.out _).mono ?_; rintro e w1 ⟨rfl, c, rfl⟩)
      go_ret
      exact ⟨rfl, _, _, .inr rfl⟩
theorem sign_b (z : Int) (h : Fit z) (w : World) :
    Calls Try.prog 32 #[.agg #[.int .u64 (L0 z), .int .u64 (L1 z), .int .u64 (L2 z), .int .u64 (L3 z)]] w fun e w' => e = .returned (.int .i64 (sgnZ z)) ∧ Bel w.heap.size w w' :=
  (sign_any z h w).mono fun e w' ⟨he, c, d, hw⟩ => ⟨he, by rcases hw with hw | hw <;> rw [hw] <;> repeat' (first | (with_reducible exact Bel.refl _ _) | (with_reducible assumption) | (with_reducible refine bel_drewN ?_ _) | (with_reducible refine Bel.drew ?_) | (with_reducible refine Bel.alloc ?_ ?_ _) | (with_reducible refine Bel.setCell ?_ ?_ _) | (with_reducible refine thenB ?_ (by with_reducible assumption) ?_) | (with_reducible exact Nat.le_refl _) | (with_reducible exact Nat.le_succ _) | (with_reducible exact Nat.le_succ_of_le (by with_reducible assumption)) | omega | (simp; done) | (simp; omega) | (exact Nat.le_succ _) | (exact Nat.le_succ_of_le (by with_reducible assumption)))⟩

/-- which is greater -/
def cmpZ (a b : Int) : Int := if a < b then -1 else if b < a then 1 else 0
end Go.Proofs.Ytibnackmddigaaa
end
section
namespace Go.Proofs.Ytibnackmddigaaa
open Go.ChangeShapes Go.WideShapes Go.ChangeAt Go.RowKit
set_option linter.unusedVariables false

theorem of_b (n : Int) (h0 : -9223372036854775808 ≤ n) (h1 : n ≤ 9223372036854775807) (w : World) :
    Calls Try.prog 46 #[.int .i64 n] w fun e w' => e = .returned (.agg #[.int .u64 (L0 n), .int .u64 (L1 n), .int .u64 (L2 n), .int .u64 (L3 n)]) ∧ Bel w.heap.size w w' :=
  (of_any n h0 h1 w).mono fun e w' ⟨he, c, hw⟩ => ⟨he, by rw [hw]; repeat' (first | (with_reducible exact Bel.refl _ _) | (with_reducible assumption) | (with_reducible refine bel_drewN ?_ _) | (with_reducible refine Bel.drew ?_) | (with_reducible refine Bel.alloc ?_ ?_ _) | (with_reducible refine Bel.setCell ?_ ?_ _) | (with_reducible refine thenB ?_ (by with_reducible assumption) ?_) | (with_reducible exact Nat.le_refl _) | (with_reducible exact Nat.le_succ _) | (with_reducible exact Nat.le_succ_of_le (by with_reducible assumption)) | omega | (simp; done) | (simp; omega) | (exact Nat.le_succ _) | (exact Nat.le_succ_of_le (by with_reducible assumption)))⟩
end Go.Proofs.Ytibnackmddigaaa
end
section
namespace Go.Proofs.Ytibnackmddigaaa
open Go.ChangeShapes Go.WideShapes Go.ChangeAt Go.RowKit
set_option linter.unusedVariables false

end Go.Proofs.Ytibnackmddigaaa
end
section
namespace Go.Proofs.Ytibnackmddigaaa
open Go.ChangeShapes Go.WideShapes Go.ChangeAt Go.RowKit
set_option linter.unusedVariables false

end Go.Proofs.Ytibnackmddigaaa
end
section
namespace Go.Proofs.Ytibnackmddigaaa
open Go.ChangeShapes Go.WideShapes Go.ChangeAt Go.RowKit
set_option linter.unusedVariables false
set_option linter.unusedSimpArgs false

theorem en_sizeOf : ∀ args w, (callFunc 122 args).run Try.prog w = .ok (.enter 122 args) w := enter_of Try.func122 rfl rfl
theorem abs_siz {a : Int} (ha : Fit a) : Siz (a.natAbs : Int) := by
  obtain ⟨_, _⟩ := ha
  exact ⟨by omega, by omega⟩
end Go.Proofs.Ytibnackmddigaaa
end
section
namespace Go.Proofs.Ytibnackmddigaaa
open Go.ChangeShapes Go.WideShapes Go.ChangeAt Go.RowKit
set_option linter.unusedVariables false

end Go.Proofs.Ytibnackmddigaaa
end
section
namespace Go.Proofs.Ytibnackmddigaaa
open Go.ChangeShapes Go.WideShapes Go.ChangeAt Go.RowKit
set_option linter.unusedVariables false

theorem siz_words {a : Int} (h : Siz a) : a = L0 a + 18446744073709551616 * L1 a + 340282366920938463463374607431768211456 * L2 a + 6277101735386680763835789423207666416102355444464034512896 * L3 a := by
  obtain ⟨_, _⟩ := h; unfold L0 L1 L2 L3; omega
theorem mul_words (a b x0 x1 x2 x3 y0 y1 y2 y3 : Int) (ea : a = x0 + 18446744073709551616 * x1 + 340282366920938463463374607431768211456 * x2 + 6277101735386680763835789423207666416102355444464034512896 * x3) (eb : b = y0 + 18446744073709551616 * y1 + 340282366920938463463374607431768211456 * y2 + 6277101735386680763835789423207666416102355444464034512896 * y3) :
    a * b = x0 * y0 + 18446744073709551616 * (x0 * y1) + 340282366920938463463374607431768211456 * (x0 * y2) + 6277101735386680763835789423207666416102355444464034512896 * (x0 * y3) + 18446744073709551616 * (x1 * y0) + 340282366920938463463374607431768211456 * (x1 * y1) + 6277101735386680763835789423207666416102355444464034512896 * (x1 * y2) + 115792089237316195423570985008687907853269984665640564039457584007913129639936 * (x1 * y3) + 340282366920938463463374607431768211456 * (x2 * y0) + 6277101735386680763835789423207666416102355444464034512896 * (x2 * y1) + 115792089237316195423570985008687907853269984665640564039457584007913129639936 * (x2 * y2) + 2135987035920910082395021706169552114602704522356652769947041607822219725780640550022962086936576 * (x2 * y3) + 6277101735386680763835789423207666416102355444464034512896 * (x3 * y0) + 115792089237316195423570985008687907853269984665640564039457584007913129639936 * (x3 * y1) + 2135987035920910082395021706169552114602704522356652769947041607822219725780640550022962086936576 * (x3 * y2) + 39402006196394479212279040100143613805079739270465446667948293404245721771497210611414266254884915640806627990306816 * (x3 * y3) := by
  have ha : a * b = x0 * b + 18446744073709551616 * (x1 * b) + 340282366920938463463374607431768211456 * (x2 * b) + 6277101735386680763835789423207666416102355444464034512896 * (x3 * b) := by
    rw [ea, Int.add_mul, Int.add_mul, Int.add_mul, Int.mul_assoc, Int.mul_assoc, Int.mul_assoc]
  have hx : ∀ x : Int, x * b = x * y0 + 18446744073709551616 * (x * y1) + 340282366920938463463374607431768211456 * (x * y2) + 6277101735386680763835789423207666416102355444464034512896 * (x * y3) := fun x => by
    rw [eb, Int.mul_add, Int.mul_add, Int.mul_add, Int.mul_left_comm x 18446744073709551616 y1, Int.mul_left_comm x 340282366920938463463374607431768211456 y2, Int.mul_left_comm x 6277101735386680763835789423207666416102355444464034512896 y3]
  rw [ha, hx x0, hx x1, hx x2, hx x3]
  omega
/-- the eight words of a product -/
theorem product_b (a b n : Int) (ha : Siz a) (hb : Siz b) (hn : n = a * b) (w : World) : Calls Try.prog 121 #[.agg #[.int .u64 (L0 a), .int .u64 (L1 a), .int .u64 (L2 a), .int .u64 (L3 a)], .agg #[.int .u64 (L0 b), .int .u64 (L1 b), .int .u64 (L2 b), .int .u64 (L3 b)]] w fun e w' => e = .returned (.agg #[.int .u64 (L0 n), .int .u64 (L1 n), .int .u64 (L2 n), .int .u64 (L3 n), .int .u64 (L0 (n / 115792089237316195423570985008687907853269984665640564039457584007913129639936)), .int .u64 (L1 (n / 115792089237316195423570985008687907853269984665640564039457584007913129639936)), .int .u64 (L2 (n / 115792089237316195423570985008687907853269984665640564039457584007913129639936)), .int .u64 (L3 (n / 115792089237316195423570985008687907853269984665640564039457584007913129639936))]) ∧ Bel w.heap.size w w' := by
  refine (product_gen _ _ _ _ _ _ _ _ (W4.of a) (W4.of b) w).mono ?_
  rintro e w' ⟨p0, p1, p2, p3, p4, p5, p6, p7, hp, hq, hs, rfl, c1, c2, c3, c4, hw⟩
  obtain ⟨e0, e1, e2, e3⟩ := L_num4 hp
  obtain ⟨e4, e5, e6, e7⟩ := L_num4 hq
  have hm := mul_words a b _ _ _ _ _ _ _ _ (siz_words ha) (siz_words hb)
  rw [← hs, ← hn] at hm
  have q1 : n / 115792089237316195423570985008687907853269984665640564039457584007913129639936 = num4 p4 p5 p6 p7 := by
    obtain ⟨_, _, _, _, _, _, _, _⟩ := hp; obtain ⟨_, _, _, _, _, _, _, _⟩ := hq
    unfold num4; omega
  have q2 : n % 115792089237316195423570985008687907853269984665640564039457584007913129639936 = num4 p0 p1 p2 p3 := by
    obtain ⟨_, _, _, _, _, _, _, _⟩ := hp; obtain ⟨_, _, _, _, _, _, _, _⟩ := hq
    unfold num4; omega
  have l : ∀ z : Int, L0 z = L0 (z % 115792089237316195423570985008687907853269984665640564039457584007913129639936) ∧ L1 z = L1 (z % 115792089237316195423570985008687907853269984665640564039457584007913129639936) ∧ L2 z = L2 (z % 115792089237316195423570985008687907853269984665640564039457584007913129639936) ∧ L3 z = L3 (z % 115792089237316195423570985008687907853269984665640564039457584007913129639936) := fun z => by unfold L0 L1 L2 L3; omega
  obtain ⟨l0, l1, l2, l3⟩ := l n
  rw [l0, l1, l2, l3, q1, q2, e0, e1, e2, e3, e4, e5, e6, e7]
  exact ⟨rfl, by rw [hw]; repeat' (first | (with_reducible exact Bel.refl _ _) | (with_reducible assumption) | (with_reducible refine bel_drewN ?_ _) | (with_reducible refine Bel.drew ?_) | (with_reducible refine Bel.alloc ?_ ?_ _) | (with_reducible refine Bel.setCell ?_ ?_ _) | (with_reducible refine thenB ?_ (by with_reducible assumption) ?_) | (with_reducible exact Nat.le_refl _) | (with_reducible exact Nat.le_succ _) | (with_reducible exact Nat.le_succ_of_le (by with_reducible assumption)) | omega | (simp; done) | (simp; omega) | (exact Nat.le_succ _) | (exact Nat.le_succ_of_le (by with_reducible assumption)))⟩
theorem L_prod_hi (a b : Int) (ha : Fit a) (hb : Fit b) : Siz (((a.natAbs : Int) * b.natAbs) / 115792089237316195423570985008687907853269984665640564039457584007913129639936) := by
  have h1 := Int.mul_le_mul (show (a.natAbs : Int) ≤ 57896044618658097711785492504343953926634992332820282019728792003956564819968 by have := ha.lo; have := ha.hi; omega) (show (b.natAbs : Int) ≤ 57896044618658097711785492504343953926634992332820282019728792003956564819968 by have := hb.lo; have := hb.hi; omega) (by omega) (by decide)
  have h0 : (0 : Int) ≤ (a.natAbs : Int) * b.natAbs := Int.mul_nonneg (by omega) (by omega)
  generalize (a.natAbs : Int) * b.natAbs = n at *
  constructor <;> omega
theorem natAbs_mul (a b : Int) : a * b = if (!(decide (a < 0) == decide (b < 0))) = true then 0 - (a.natAbs : Int) * b.natAbs else (a.natAbs : Int) * b.natAbs := by
  by_cases h1 : a < 0 <;> by_cases h2 : b < 0
  · have e1 : (a.natAbs : Int) = -a := by omega
    have e2 : (b.natAbs : Int) = -b := by omega
    simp only [h1, h2, decide_true, beq_self_eq_true, Bool.not_true, Bool.false_eq_true, if_false]
    rw [e1, e2, Int.neg_mul_neg]
  · have e1 : (a.natAbs : Int) = -a := by omega
    have e2 : (b.natAbs : Int) = b := by omega
    have d : (!(decide (a < 0) == decide (b < 0))) = true := by simp [h1, h2]
    rw [if_pos d, e1, e2, Int.neg_mul]; omega
  · have e1 : (a.natAbs : Int) = a := by omega
    have e2 : (b.natAbs : Int) = -b := by omega
    have d : (!(decide (a < 0) == decide (b < 0))) = true := by simp [h1, h2]
    rw [if_pos d, e1, e2, Int.mul_neg]; omega
  · have e1 : (a.natAbs : Int) = a := by omega
    have e2 : (b.natAbs : Int) = b := by omega
    have d : (!(decide (a < 0) == decide (b < 0))) = false := by simp [h1, h2]
    rw [if_neg (by rw [d]; decide), e1, e2]
end Go.Proofs.Ytibnackmddigaaa
end
