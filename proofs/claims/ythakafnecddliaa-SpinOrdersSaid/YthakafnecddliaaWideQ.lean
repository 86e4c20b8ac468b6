/- merged: The contracts of wide.sizeOf, signed, Sign. Conditions: numbers that can be. The contracts of wide.Add, Sub, Neg. Conditions: numbers that a wide.Int can be. The contracts of wide.Sign, Small, Cmp, Shr. Conditions: numbers that a wide.Int can be. The contract of wide.Div. Conditions: numbers that a wide.Int can be. The contract of wide.Gcd. Conditions: numbers that a wide.Int can be. -/
import Derived.Test.YthakafnecddliaaWideY
import Derived.Test.YthakafnecddliaaEq
import Derived.Test.YthakafnecddliaaMemoW
import Derived.Deep.LoopGhost
section
namespace Go.Proofs.Ythakafnecddliaa
open Go.ChangeShapes Go.WideShapes Go.ChangeAt Go.RowKit
set_option linter.unusedVariables false

theorem L_zero : L0 0 = 0 ∧ L1 0 = 0 ∧ L2 0 = 0 ∧ L3 0 = 0 := ⟨rfl, rfl, rfl, rfl⟩
/-- a wide.Int without its sign -/
theorem sizeOf_any (z : Int) (h : Fit z) (w : World) :
    Calls Try.prog 100 #[.agg #[.int .u64 (L0 z), .int .u64 (L1 z), .int .u64 (L2 z), .int .u64 (L3 z)]] w fun e w' => e = .returned (.agg #[.int .u64 (L0 (z.natAbs : Int)), .int .u64 (L1 (z.natAbs : Int)), .int .u64 (L2 (z.natAbs : Int)), .int .u64 (L3 (z.natAbs : Int))]) ∧ Bel w.heap.size w w' := by
  by_cases hz : z < 0
  · have hn : ngB z = true := by rw [ngB_fit h]; simpa using hz
    have e : (z.natAbs : Int) = 0 - z := by omega
    rw [e]
    have B1 := Lib.hid (fun w => below_is hn w)
    have M1 := Lib.hid (fun w => minus_any 0 z w)
    clear hn e hz
    generalize (0 : Int) - z = y at *
    generalize L0 z = x0 at *; generalize L1 z = x1 at *; generalize L2 z = x2 at *; generalize L3 z = x3 at *
    generalize L0 y = y0 at *; generalize L1 y = y1 at *; generalize L2 y = y2 at *; generalize L3 y = y3 at *
    go_enter Try.func100, Try.ntmps100
    go_wp2_with (first
      | (go_at_call 104; refine (B1.out _).mono ?_; rintro e w1 ⟨rfl, c, rfl⟩)
      | (go_at_call 107; refine (M1.out _).mono ?_; rintro e w1 ⟨rfl, c1, c2, c3, c4, n, rfl⟩))
    try simp only [setCell_drawn]
    refine bodyPost_ret (by simp [results, Try.results100, go_sem]) rfl ⟨rfl, ?_⟩
    repeat' (first | (with_reducible exact Bel.refl _ _) | (with_reducible assumption) | (with_reducible refine bel_drewN ?_ _) | (with_reducible refine Bel.drew ?_) | (with_reducible refine Bel.alloc ?_ ?_ _) | (with_reducible refine Bel.setCell ?_ ?_ _) | (with_reducible refine thenB ?_ (by with_reducible assumption) ?_) | (with_reducible exact Nat.le_refl _) | (with_reducible exact Nat.le_succ _) | (with_reducible exact Nat.le_succ_of_le (by with_reducible assumption)) | omega | (simp; done) | (simp; omega) | (exact Nat.le_succ _) | (exact Nat.le_succ_of_le (by with_reducible assumption)))
  · have hn : ngB z = false := by rw [ngB_fit h]; simpa using hz
    have e : (z.natAbs : Int) = z := by omega
    rw [e]
    have B1 := Lib.hid (fun w => below_is hn w)
    clear hn e hz
    generalize L0 z = x0 at *; generalize L1 z = x1 at *; generalize L2 z = x2 at *; generalize L3 z = x3 at *
    go_enter Try.func100, Try.ntmps100
    go_wp2_with (first
      | (go_at_call 104; refine (B1.out _).mono ?_; rintro e w1 ⟨rfl, c, rfl⟩))
    try simp only [setCell_drawn]
    refine bodyPost_ret (by simp [results, Try.results100, go_sem]) rfl ⟨rfl, ?_⟩
    repeat' (first | (with_reducible exact Bel.refl _ _) | (with_reducible assumption) | (with_reducible refine bel_drewN ?_ _) | (with_reducible refine Bel.drew ?_) | (with_reducible refine Bel.alloc ?_ ?_ _) | (with_reducible refine Bel.setCell ?_ ?_ _) | (with_reducible refine thenB ?_ (by with_reducible assumption) ?_) | (with_reducible exact Nat.le_refl _) | (with_reducible exact Nat.le_succ _) | (with_reducible exact Nat.le_succ_of_le (by with_reducible assumption)) | omega | (simp; done) | (simp; omega) | (exact Nat.le_succ _) | (exact Nat.le_succ_of_le (by with_reducible assumption)))
theorem siz0 : Siz 0 := ⟨by decide, by decide⟩
theorem fit0 : Fit 0 := ⟨by decide, by decide⟩
end Go.Proofs.Ythakafnecddliaa
end
section
namespace Go.Proofs.Ythakafnecddliaa
open Go.ChangeShapes Go.WideShapes Go.ChangeAt Go.RowKit
set_option linter.unusedVariables false

theorem below_b {z : Int} {s : Bool} (h : ngB z = s) (w : World) :
    Calls Try.prog 104 #[.agg #[.int .u64 (L0 z), .int .u64 (L1 z), .int .u64 (L2 z), .int .u64 (L3 z)]] w fun e w' => e = .returned (.bool s) ∧ Bel w.heap.size w w' :=
  (below_is h w).mono fun e w' ⟨he, c, hw⟩ => ⟨he, by rw [hw]; repeat' (first | (with_reducible exact Bel.refl _ _) | (with_reducible assumption) | (with_reducible refine bel_drewN ?_ _) | (with_reducible refine Bel.drew ?_) | (with_reducible refine Bel.alloc ?_ ?_ _) | (with_reducible refine Bel.setCell ?_ ?_ _) | (with_reducible refine thenB ?_ (by with_reducible assumption) ?_) | (with_reducible exact Nat.le_refl _) | (with_reducible exact Nat.le_succ _) | (with_reducible exact Nat.le_succ_of_le (by with_reducible assumption)) | omega | (simp; done) | (simp; omega) | (exact Nat.le_succ _) | (exact Nat.le_succ_of_le (by with_reducible assumption)))⟩
theorem two_cells {w : World} {p q r : Nat} (h : p < w.heap.size) (h' : q < w.heap.size) (o : Obj) : ¬ w.heap.size = p ∧ ¬ w.heap.size = q := ⟨by omega, by omega⟩
end Go.Proofs.Ythakafnecddliaa
end
section
namespace Go.Proofs.Ythakafnecddliaa
open Go.ChangeShapes Go.WideShapes Go.ChangeAt Go.RowKit
set_option linter.unusedVariables false

theorem below_o {z : Int} {s : Bool} (h : ngB z = s) (w : World) :
    Calls Try.prog 104 #[.agg #[.int .u64 (L0 z), .int .u64 (L1 z), .int .u64 (L2 z), .int .u64 (L3 z)]] w fun e w' => e = .returned (.bool s) ∧ Bel w.heap.size w w' :=
  (below_is h w).mono fun e w' ⟨he, c, hw⟩ => ⟨he, by rw [hw]; repeat' (first | (with_reducible exact Bel.refl _ _) | (with_reducible assumption) | (with_reducible refine bel_drewN ?_ _) | (with_reducible refine Bel.drew ?_) | (with_reducible refine Bel.alloc ?_ ?_ _) | (with_reducible refine Bel.setCell ?_ ?_ _) | (with_reducible refine thenB ?_ (by with_reducible assumption) ?_) | (with_reducible exact Nat.le_refl _) | (with_reducible exact Nat.le_succ _) | (with_reducible exact Nat.le_succ_of_le (by with_reducible assumption)) | omega | (simp; done) | (simp; omega) | (exact Nat.le_succ _) | (exact Nat.le_succ_of_le (by with_reducible assumption)))⟩
/-- -1, 0 or 1 -/
def sgnZ (z : Int) : Int := if z < 0 then -1 else if z = 0 then 0 else 1
set_option maxRecDepth 20000 in
theorem sign_any (z : Int) (h : Fit z) (w : World) :
    Calls Try.prog 98 #[.agg #[.int .u64 (L0 z), .int .u64 (L1 z), .int .u64 (L2 z), .int .u64 (L3 z)]] w fun e w' => e = .returned (.int .i64 (sgnZ z)) ∧ ∃ c d, w' = w.alloc (.cells c 140) ∨ w' = (w.alloc (.cells c 140)).alloc (.cells d 140) := by
  have EQ : ∀ w, (Op.equalIn 10000 140 (.agg #[.int .u64 (L0 z), .int .u64 (L1 z), .int .u64 (L2 z), .int .u64 (L3 z)]) (.agg #[.int .u64 0, .int .u64 0, .int .u64 0, .int .u64 0])).run Try.prog w = .ok (decide (z = 0)) w := fun w => eq_fit h fit0 w
  have hn := ngB_fit h
  by_cases h0 : z = 0
  · rw [decide_eq_true h0] at EQ
    have e : sgnZ z = 0 := by rw [h0]; rfl
    rw [e]
    clear h0 hn h e
    generalize L0 z = x0 at *; generalize L1 z = x1 at *; generalize L2 z = x2 at *; generalize L3 z = x3 at *
    go_enter Try.func98, Try.ntmps98
    go_wp2
    go_ret
    exact ⟨rfl, _, #[], .inl rfl⟩
  · rw [decide_eq_false h0] at EQ
    by_cases h1 : z < 0
    · have e : sgnZ z = -1 := by unfold sgnZ; rw [if_pos h1]
      rw [decide_eq_true h1] at hn
      have B := Lib.hid (fun w => below_is hn w)
      rw [e]
      clear h0 hn h e h1
      generalize L0 z = x0 at *; generalize L1 z = x1 at *; generalize L2 z = x2 at *; generalize L3 z = x3 at *
      go_enter Try.func98, Try.ntmps98
      go_wp2_with (go_at_call 104; refine (B.out _).mono ?_; rintro e w1 ⟨rfl, c, rfl⟩)
      go_ret
      exact ⟨rfl, _, _, .inr rfl⟩
    · have e : sgnZ z = 1 := by unfold sgnZ; rw [if_neg h1, if_neg h0]
      rw [decide_eq_false h1] at hn
      have B := Lib.hid (fun w => below_is hn w)
      rw [e]
      clear h0 hn h e h1
      generalize L0 z = x0 at *; generalize L1 z = x1 at *; generalize L2 z = x2 at *; generalize L3 z = x3 at *
      go_enter Try.func98, Try.ntmps98
      go_wp2_with (go_at_call 104; refine (B.out _).mono ?_; rintro e w1 ⟨rfl, c, rfl⟩)
      go_ret
      exact ⟨rfl, _, _, .inr rfl⟩
theorem sign_b (z : Int) (h : Fit z) (w : World) :
    Calls Try.prog 98 #[.agg #[.int .u64 (L0 z), .int .u64 (L1 z), .int .u64 (L2 z), .int .u64 (L3 z)]] w fun e w' => e = .returned (.int .i64 (sgnZ z)) ∧ Bel w.heap.size w w' :=
  (sign_any z h w).mono fun e w' ⟨he, c, d, hw⟩ => ⟨he, by rcases hw with hw | hw <;> rw [hw] <;> repeat' (first | (with_reducible exact Bel.refl _ _) | (with_reducible assumption) | (with_reducible refine bel_drewN ?_ _) | (with_reducible refine Bel.drew ?_) | (with_reducible refine Bel.alloc ?_ ?_ _) | (with_reducible refine Bel.setCell ?_ ?_ _) | (with_reducible refine thenB ?_ (by with_reducible assumption) ?_) | (with_reducible exact Nat.le_refl _) | (with_reducible exact Nat.le_succ _) | (with_reducible exact Nat.le_succ_of_le (by with_reducible assumption)) | omega | (simp; done) | (simp; omega) | (exact Nat.le_succ _) | (exact Nat.le_succ_of_le (by with_reducible assumption)))⟩

theorem xor_top (x : Int) (h0 : 0 ≤ x) (h1 : x ≤ 18446744073709551615) : bits BinOp.xor IntKind.u64 x 9223372036854775808 = (x + 9223372036854775808) % 18446744073709551616 := by
  obtain ⟨n, rfl⟩ := Int.eq_ofNat_of_zero_le h0
  refine (u64_xor_nat n 9223372036854775808 (by omega) (by omega)).trans ?_
  have o : ∀ l : Nat, l < 2 ^ 63 → l ^^^ 2 ^ 63 = l + 2 ^ 63 := fun l hl => by
    apply Nat.eq_of_testBit_eq
    intro i
    rw [Nat.testBit_xor, Nat.testBit_two_pow, Nat.add_comm]
    by_cases hi : i < 63
    · rw [Nat.testBit_two_pow_add_gt hi]
      have : ¬ 63 = i := by omega
      simp [this]
    · by_cases h63 : i = 63
      · subst h63
        rw [Nat.testBit_two_pow_add_eq, Nat.testBit_lt_two_pow hl]; simp
      · have h64 : 2 ^ 63 + l < 2 ^ i := by
          have : 2 ^ 64 ≤ 2 ^ i := Nat.pow_le_pow_right (by omega) (by omega)
          omega
        have h65 : l < 2 ^ i := by omega
        rw [Nat.testBit_lt_two_pow h64, Nat.testBit_lt_two_pow h65]
        have : ¬ 63 = i := by omega
        simp [this]
  have e : (9223372036854775808 : Nat) = 2 ^ 63 := by decide
  by_cases hl : n < 2 ^ 63
  · rw [e, o n hl]; omega
  · have s := o (n - 2 ^ 63) (by omega)
    have r : n ^^^ 2 ^ 63 = n - 2 ^ 63 := by
      have : (n - 2 ^ 63) ^^^ 2 ^ 63 ^^^ 2 ^ 63 = n ^^^ 2 ^ 63 := by rw [s, show n - 2 ^ 63 + 2 ^ 63 = n by omega]
      rw [← this, Nat.xor_assoc, Nat.xor_self, Nat.xor_zero]
    rw [e, r]; omega
theorem L_top (z : Int) : L0 z = L0 (z + 57896044618658097711785492504343953926634992332820282019728792003956564819968) ∧ L1 z = L1 (z + 57896044618658097711785492504343953926634992332820282019728792003956564819968) ∧ L2 z = L2 (z + 57896044618658097711785492504343953926634992332820282019728792003956564819968) ∧ (L3 z + 9223372036854775808) % 18446744073709551616 = L3 (z + 57896044618658097711785492504343953926634992332820282019728792003956564819968) := by
  unfold L0 L1 L2 L3; omega
/-- which is greater -/
def cmpZ (a b : Int) : Int := if a < b then -1 else if b < a then 1 else 0
end Go.Proofs.Ythakafnecddliaa
end
section
namespace Go.Proofs.Ythakafnecddliaa
open Go.ChangeShapes Go.WideShapes Go.ChangeAt Go.RowKit
set_option linter.unusedVariables false
set_option linter.unusedSimpArgs false

theorem en_sizeOf : ∀ args w, (callFunc 100 args).run Try.prog w = .ok (.enter 100 args) w := enter_of Try.func100 rfl rfl
theorem en_below : ∀ args w, (callFunc 104 args).run Try.prog w = .ok (.enter 104 args) w := enter_of Try.func104 rfl rfl
theorem tdiv_abs (a b : Int) : a.tdiv b = if (!(decide (a < 0) == decide (b < 0))) = true then 0 - (a.natAbs : Int) / b.natAbs else (a.natAbs : Int) / b.natAbs := by
  rcases Int.natAbs_eq a with ha | ha <;> rcases Int.natAbs_eq b with hb | hb <;> (
    generalize a.natAbs = m at *
    generalize b.natAbs = n at *
    subst ha hb
    simp only [Int.neg_tdiv, Int.tdiv_neg, Int.neg_neg, ← Int.ofNat_tdiv]
    rcases Nat.eq_zero_or_pos m with rfl | hm <;> rcases Nat.eq_zero_or_pos n with rfl | hn <;> simp <;> omega)
theorem tmod_abs (a b : Int) : a.tmod b = if decide (a < 0) = true then 0 - (a.natAbs : Int) % b.natAbs else (a.natAbs : Int) % b.natAbs := by
  rcases Int.natAbs_eq a with ha | ha <;> rcases Int.natAbs_eq b with hb | hb <;> (
    generalize a.natAbs = m at *
    generalize b.natAbs = n at *
    subst ha hb
    simp only [Int.neg_tmod, Int.tmod_neg, Int.neg_neg, ← Int.ofNat_tmod]
    rcases Nat.eq_zero_or_pos m with rfl | hm <;> rcases Nat.eq_zero_or_pos n with rfl | hn <;> simp <;> omega)
theorem quo_siz {a b : Int} (ha : Fit a) : Siz ((a.natAbs : Int) / b.natAbs) := by
  obtain ⟨_, _⟩ := ha
  have h1 := Int.ediv_le_self (b.natAbs : Int) (show (0 : Int) ≤ a.natAbs by omega)
  have h2 := Int.ediv_nonneg (show (0 : Int) ≤ a.natAbs by omega) (show (0 : Int) ≤ b.natAbs by omega)
  exact ⟨h2, by omega⟩
theorem rest_fit {a b : Int} (hb : Fit b) (h : b ≠ 0) : Siz ((a.natAbs : Int) % b.natAbs) ∧ Fit ((a.natAbs : Int) % b.natAbs) ∧ Fit (0 - (a.natAbs : Int) % b.natAbs) := by
  obtain ⟨_, _⟩ := hb
  have h1 := Int.emod_nonneg (a.natAbs : Int) (show (b.natAbs : Int) ≠ 0 by omega)
  have h2 := Int.emod_lt_of_pos (a.natAbs : Int) (show (0 : Int) < b.natAbs by omega)
  exact ⟨⟨by omega, by omega⟩, ⟨by omega, by omega⟩, ⟨by omega, by omega⟩⟩
theorem tmod_fit {a b : Int} (hb : Fit b) (h : b ≠ 0) : Fit (a.tmod b) := by
  rw [tmod_abs]
  obtain ⟨_, h1, h2⟩ := rest_fit (a := a) hb h
  split <;> assumption
theorem abs_siz {a : Int} (ha : Fit a) : Siz (a.natAbs : Int) := by
  obtain ⟨_, _⟩ := ha
  exact ⟨by omega, by omega⟩
theorem eq_no {b : Int} (hb : Fit b) (h : b ≠ 0) (w : World) : (Op.equalIn 10000 140 (.agg #[.int .u64 (L0 b), .int .u64 (L1 b), .int .u64 (L2 b), .int .u64 (L3 b)]) (.agg #[.int .u64 0, .int .u64 0, .int .u64 0, .int .u64 0])).run Try.prog w = .ok false w := by
  have := eq_fit hb fit0 w
  rw [decide_eq_false h] at this
  exact this
end Go.Proofs.Ythakafnecddliaa
end
section
namespace Go.Proofs.Ythakafnecddliaa
open Go.ChangeShapes Go.WideShapes Go.ChangeAt Go.RowKit
set_option linter.unusedVariables false

theorem gcd_step (m n g : Int) (hm : 0 ≤ m) (hn : 0 < n) (h : ((m.toNat).gcd n.toNat : Int) = g) : ((n.toNat).gcd (m % n).toNat : Int) = g := by
  obtain ⟨a, rfl⟩ := Int.eq_ofNat_of_zero_le hm
  obtain ⟨b, rfl⟩ := Int.eq_ofNat_of_zero_le (Int.le_of_lt hn)
  have e : (((a : Int) % (b : Int))).toNat = a % b := by rw [← Int.natCast_emod]; exact Int.toNat_natCast _
  rw [e]
  rw [Int.toNat_natCast, Int.toNat_natCast] at h
  rw [← h, Int.toNat_natCast, Nat.gcd_comm a b, Nat.gcd_rec b a, Nat.gcd_comm]
theorem Siz.mod {a b : Int} (ha : Siz a) (hb : Siz b) (h : 0 < b) : Siz (a % b) := by
  obtain ⟨h0, h1⟩ := hb
  have := Int.emod_nonneg a (show b ≠ 0 by omega)
  have := Int.emod_lt_of_pos a h
  exact ⟨by omega, by omega⟩

theorem gcd_siz (a b : Int) (ha : Fit a) (hb : Fit b) : Siz ((a.natAbs).gcd b.natAbs : Int) := by
  obtain ⟨_, _⟩ := ha
  obtain ⟨_, _⟩ := hb
  by_cases h : a = 0
  · subst h
    simp only [Int.natAbs_zero, Nat.gcd_zero_left]
    exact ⟨by omega, by omega⟩
  · have := Nat.gcd_le_left b.natAbs (show 0 < a.natAbs by omega)
    exact ⟨by omega, by omega⟩
end Go.Proofs.Ythakafnecddliaa
end
