
/- The contracts of wide.Sign, Small, Cmp, Shr. Conditions: numbers that a wide.Int can be. -/
import Derived.Test.YtpoaodaihiacgaaDoorWideC
import Derived.Test.YtpoaodaihiacgaaDoorWideV
import Derived.Test.YtpoaodaihiacgaaDoorEq
namespace Go.Proofs.YtpoaodaihiacgaaDoor
open Go.ChangeShapes Go.WideShapes Go.ChangeAt Go.RowKit
set_option linter.unusedVariables false

theorem below_o {z : Int} {s : Bool} (h : ngB z = s) (w : World) :
    Calls Tryd.prog 41 #[.agg #[.int .u64 (L0 z), .int .u64 (L1 z), .int .u64 (L2 z), .int .u64 (L3 z)]] w fun e w' => e = .returned (.bool s) ∧ Below w.heap.size w w' :=
  (below_is h w).mono fun e w' ⟨he, c, hw⟩ => ⟨he, by rw [hw]; repeat' (first | (with_reducible exact Below.refl _ _) | (with_reducible assumption) | (with_reducible refine below_drewN ?_ _) | (with_reducible refine Below.drew ?_) | (with_reducible refine Below.alloc ?_ ?_ _) | (with_reducible refine Below.setCell ?_ ?_ _) | (with_reducible refine then_ ?_ (by with_reducible assumption) ?_) | (with_reducible exact Nat.le_refl _) | (with_reducible exact Nat.le_succ _) | (with_reducible exact Nat.le_succ_of_le (by with_reducible assumption)) | omega | (simp; done) | (simp; omega) | (exact Nat.le_succ _) | (exact Nat.le_succ_of_le (by with_reducible assumption)))⟩
/-- -1, 0 or 1 -/
def sgnZ (z : Int) : Int := if z < 0 then -1 else if z = 0 then 0 else 1
set_option maxRecDepth 20000 in
theorem sign_any (z : Int) (h : Fit z) (w : World) :
    Calls Tryd.prog 30 #[.agg #[.int .u64 (L0 z), .int .u64 (L1 z), .int .u64 (L2 z), .int .u64 (L3 z)]] w fun e w' => e = .returned (.int .i64 (sgnZ z)) ∧ ∃ c d, w' = w.alloc (.cells c 24) ∨ w' = (w.alloc (.cells c 24)).alloc (.cells d 24) := by
  have EQ : ∀ w, (Op.equalIn 10000 24 (.agg #[.int .u64 (L0 z), .int .u64 (L1 z), .int .u64 (L2 z), .int .u64 (L3 z)]) (.agg #[.int .u64 0, .int .u64 0, .int .u64 0, .int .u64 0])).run Tryd.prog w = .ok (decide (z = 0)) w := fun w => eq_fit h fit0 w
  have hn := ngB_fit h
  by_cases h0 : z = 0
  · rw [decide_eq_true h0] at EQ
    have e : sgnZ z = 0 := by rw [h0]; rfl
    rw [e]
    clear h0 hn h e
    generalize L0 z = x0 at *; generalize L1 z = x1 at *; generalize L2 z = x2 at *; generalize L3 z = x3 at *
    go_enter Tryd.func30, Tryd.ntmps30
    go_wp2
    go_ret
    exact ⟨rfl, _, #[], .inl rfl⟩
  · rw [decide_eq_false h0] at EQ
    by_cases h1 : z < 0
    · have e : sgnZ z = -1 := by unfold sgnZ; rw [if_pos h1]
      rw [decide_eq_true h1] at hn
      have B := Lib.hid (fun w => below_is hn w)
      rw [e]
      clear h0 hn h e h1
      generalize L0 z = x0 at *; generalize L1 z = x1 at *; generalize L2 z = x2 at *; generalize L3 z = x3 at *
      go_enter Tryd.func30, Tryd.ntmps30
      go_wp2_with (go_at_call 41; refine (B.out _).mono ?_; rintro e w1 ⟨rfl, c, rfl⟩)
      go_ret
      exact ⟨rfl, _, _, .inr rfl⟩
    · have e : sgnZ z = 1 := by unfold sgnZ; rw [if_neg h1, if_neg h0]
      rw [decide_eq_false h1] at hn
      have B := Lib.hid (fun w => below_is hn w)
      rw [e]
      clear h0 hn h e h1
      generalize L0 z = x0 at *; generalize L1 z = x1 at *; generalize L2 z = x2 at *; generalize L3 z = x3 at *
      go_enter Tryd.func30, Tryd.ntmps30
      go_wp2_with (go_at_call 41; refine (B.out _).mono ?_; rintro e w1 ⟨rfl, c, rfl⟩)
      go_ret
      exact ⟨rfl, _, _, .inr rfl⟩
theorem sign_b (z : Int) (h : Fit z) (w : World) :
    Calls Tryd.prog 30 #[.agg #[.int .u64 (L0 z), .int .u64 (L1 z), .int .u64 (L2 z), .int .u64 (L3 z)]] w fun e w' => e = .returned (.int .i64 (sgnZ z)) ∧ Below w.heap.size w w' :=
  (sign_any z h w).mono fun e w' ⟨he, c, d, hw⟩ => ⟨he, by rcases hw with hw | hw <;> rw [hw] <;> repeat' (first | (with_reducible exact Below.refl _ _) | (with_reducible assumption) | (with_reducible refine below_drewN ?_ _) | (with_reducible refine Below.drew ?_) | (with_reducible refine Below.alloc ?_ ?_ _) | (with_reducible refine Below.setCell ?_ ?_ _) | (with_reducible refine then_ ?_ (by with_reducible assumption) ?_) | (with_reducible exact Nat.le_refl _) | (with_reducible exact Nat.le_succ _) | (with_reducible exact Nat.le_succ_of_le (by with_reducible assumption)) | omega | (simp; done) | (simp; omega) | (exact Nat.le_succ _) | (exact Nat.le_succ_of_le (by with_reducible assumption)))⟩

theorem xor_top (x : Int) (h0 : 0 ≤ x) (h1 : x ≤ 18446744073709551615) : bits BinOp.xor IntKind.u64 x 9223372036854775808 = (x + 9223372036854775808) % 18446744073709551616 := by
  obtain ⟨n, rfl⟩ := Int.eq_ofNat_of_zero_le h0
  refine (u64_xor_nat n 9223372036854775808 (by omega) (by omega)).trans ?_
  have o : ∀ l : Nat, l < 2 ^ 63 → l ^^^ 2 ^ 63 = l + 2 ^ 63 := fun l hl => by
    apply Nat.eq_of_testBit_eq
    intro i
    rw [Nat.testBit_xor, Nat.testBit_two_pow, Nat.add_comm]
    by_cases hi : i < 63
    · rw [Nat.testBit_two_pow_add_gt hi]
      have : ¬ 63 = i := by omega
      simp [this]
    · by_cases h63 : i = 63
      · subst h63
        rw [Nat.testBit_two_pow_add_eq, Nat.testBit_lt_two_pow hl]; simp
      · have h64 : 2 ^ 63 + l < 2 ^ i := by
          have : 2 ^ 64 ≤ 2 ^ i := Nat.pow_le_pow_right (by omega) (by omega)
          omega
        have h65 : l < 2 ^ i := by omega
        rw [Nat.testBit_lt_two_pow h64, Nat.testBit_lt_two_pow h65]
        have : ¬ 63 = i := by omega
        simp [this]
  have e : (9223372036854775808 : Nat) = 2 ^ 63 := by decide
  by_cases hl : n < 2 ^ 63
  · rw [e, o n hl]; omega
  · have s := o (n - 2 ^ 63) (by omega)
    have r : n ^^^ 2 ^ 63 = n - 2 ^ 63 := by
      have : (n - 2 ^ 63) ^^^ 2 ^ 63 ^^^ 2 ^ 63 = n ^^^ 2 ^ 63 := by rw [s, show n - 2 ^ 63 + 2 ^ 63 = n by omega]
      rw [← this, Nat.xor_assoc, Nat.xor_self, Nat.xor_zero]
    rw [e, r]; omega
theorem L_top (z : Int) : L0 z = L0 (z + 57896044618658097711785492504343953926634992332820282019728792003956564819968) ∧ L1 z = L1 (z + 57896044618658097711785492504343953926634992332820282019728792003956564819968) ∧ L2 z = L2 (z + 57896044618658097711785492504343953926634992332820282019728792003956564819968) ∧ (L3 z + 9223372036854775808) % 18446744073709551616 = L3 (z + 57896044618658097711785492504343953926634992332820282019728792003956564819968) := by
  unfold L0 L1 L2 L3; omega
/-- which is greater -/
def cmpZ (a b : Int) : Int := if a < b then -1 else if b < a then 1 else 0
set_option maxHeartbeats 1600000 in
set_option maxRecDepth 20000 in
theorem Cmp_any (a b : Int) (ha : Fit a) (hb : Fit b) (w : World) :
    Calls Tryd.prog 29 #[.agg #[.int .u64 (L0 a), .int .u64 (L1 a), .int .u64 (L2 a), .int .u64 (L3 a)], .agg #[.int .u64 (L0 b), .int .u64 (L1 b), .int .u64 (L2 b), .int .u64 (L3 b)]] w fun e w' => e = .returned (.int .i64 (cmpZ a b)) ∧ Below w.heap.size w w' := by
  have CV := cmp_siz (r := a + 57896044618658097711785492504343953926634992332820282019728792003956564819968) (s := b + 57896044618658097711785492504343953926634992332820282019728792003956564819968) ⟨by have := ha.lo; omega, by have := ha.hi; omega⟩ ⟨by have := hb.lo; omega, by have := hb.hi; omega⟩
  have CE : cmpZ a b = cmpW (Lf (a + 57896044618658097711785492504343953926634992332820282019728792003956564819968)) (Lf (b + 57896044618658097711785492504343953926634992332820282019728792003956564819968)) 4 := by
    rw [CV]; unfold cmpZ
    by_cases h1 : a < b
    · rw [if_pos h1, if_pos (by omega)]
    · by_cases h2 : b < a
      · rw [if_neg h1, if_pos h2, if_neg (by omega), if_pos (by omega)]
      · rw [if_neg h1, if_neg h2, if_neg (by omega), if_neg (by omega)]
  rw [CE]
  clear CE CV
  obtain ⟨A0, A1, A2, A3⟩ := L_top a
  obtain ⟨B0, B1, B2, B3⟩ := L_top b
  rw [← xor_top _ (W4.of a).a3 (W4.of a).b3] at A3
  rw [← xor_top _ (W4.of b).a3 (W4.of b).b3] at B3
  generalize a + 57896044618658097711785492504343953926634992332820282019728792003956564819968 = a' at *
  generalize b + 57896044618658097711785492504343953926634992332820282019728792003956564819968 = b' at *
  rw [A0, A1, A2, B0, B1, B2]
  have HA := Lib.hid A3; have HB := Lib.hid B3
  clear A0 A1 A2 A3 B0 B1 B2 B3
  have CM : ∀ (W : World) n, (∀ i, i < 4 → W.cell? ⟨w.heap.size, i, none⟩ = some (.int .u64 (Lf a' i))) → (∀ i, i < 4 → W.cell? ⟨w.heap.size + 1, i, none⟩ = some (.int .u64 (Lf b' i))) → Calls Tryd.prog 50 #[.slice (some ⟨w.heap.size, 0, none⟩) 4 4, .slice (some ⟨w.heap.size + 1, 0, none⟩) 4 4] (W.drewN n) fun e w'' => e = .returned (.int .i64 (cmpW (Lf a') (Lf b') 4)) ∧ ∃ m, w'' = W.drewN m := fun W n CX CY =>
    Calls.quiet_of (compare_any (Lf a') (Lf b') w.heap.size (w.heap.size + 1) 4 4 4 (by decide) (W.drewN n) CX CY)
  have CMH := Lib.hid CM
  clear CM
  go_enter Tryd.func29, Tryd.ntmps29
  go_wp2
  rw [HA.out, HB.out]
  go_quiet ((go_at_call 50; refine CMH.out _ _ ?_ ?_ <;> (intro i hi; rcases (by omega : i = 0 ∨ i = 1 ∨ i = 2 ∨ i = 3) with rfl | rfl | rfl | rfl <;> simp [go_sem, Lf])))
  go_wp2
  go_ret
  exact ⟨rfl, by repeat' (first | (with_reducible exact Below.refl _ _) | (with_reducible assumption) | (with_reducible refine below_drewN ?_ _) | (with_reducible refine Below.drew ?_) | (with_reducible refine Below.alloc ?_ ?_ _) | (with_reducible refine Below.setCell ?_ ?_ _) | (with_reducible refine then_ ?_ (by with_reducible assumption) ?_) | (with_reducible exact Nat.le_refl _) | (with_reducible exact Nat.le_succ _) | (with_reducible exact Nat.le_succ_of_le (by with_reducible assumption)) | omega | (simp; done) | (simp; omega) | (exact Nat.le_succ _) | (exact Nat.le_succ_of_le (by with_reducible assumption)))⟩
end Go.Proofs.YtpoaodaihiacgaaDoor
