/- merged: The contract of wide.minus over words. No condition but that the arguments are words. The contracts of wide.turned, Of, length. Conditions: those that each theorem names. The contract of wide.compare: rows of words against each other. Conditions: the rows can be read, up to 8 words. The contract of wide.up over words, by how many whole words are moved. Conditions: words; n not below 0. The contract of wide.down over words, by how many whole words are moved. Conditions: words; n not below 0. The contracts of wide.up and wide.down over numbers. Conditions: the number of places not below 0; down: a number that a size can be. The contracts of wide.below, plus, minus over numbers. No condition. The contract of wide.divide: the short ways. Conditions: sizes, b not nought. The contract of wide.divide: the long way. Conditions: sizes, b not nought. The contract of wide.divide. Conditions: sizes, b not nought. -/
import Derived.Test.YthakafnecddliaaEq
import Derived.Test.YthakafnecddliaaShelf
import Derived.Test.YthakafnecddliaaRatM
import Derived.Lib.ItoaNum
import Derived.WalkSpells
import Derived.Handy
import Derived.Deep.QuietTactic
import Derived.BigQuiet
import Derived.Test.YthakafnecddliaaDivM
import Derived.IntWalk
section
namespace Go.Proofs.Ythakafnecddliaa
open Go.ChangeShapes Go.WideShapes Go.ChangeAt Go.RowKit Go.Shelf
set_option linter.unusedVariables false

/-- the borrows of a difference -/
def b1w (x0 y0 : Int) : Int := -((x0 - y0) / 18446744073709551616)
def bnw (x y c : Int) : Int := -((x - y - c) / 18446744073709551616)
theorem b1_lo (x0 y0 : Int) (h : x0 ≤ 18446744073709551615) (h' : 0 ≤ y0) : 0 ≤ b1w x0 y0 := by unfold b1w; omega
theorem b1_hi (x0 y0 : Int) (h : 0 ≤ x0) (h' : y0 ≤ 18446744073709551615) : b1w x0 y0 ≤ 1 := by unfold b1w; omega
theorem bn_lo (x y c : Int) (h : x ≤ 18446744073709551615) (h' : 0 ≤ y) (h2 : 0 ≤ c) : 0 ≤ bnw x y c := by unfold bnw; omega
theorem bn_hi (x y c : Int) (h : 0 ≤ x) (h' : y ≤ 18446744073709551615) (h2 : c ≤ 1) : bnw x y c ≤ 1 := by unfold bnw; omega
def d1w (x0 y0 : Int) : Int := (x0 - y0) % 18446744073709551616
def dnw (x y c : Int) : Int := (x - y - c) % 18446744073709551616
theorem sub64 (x y b : Int) (hx : 0 ≤ x) (hx' : x ≤ 18446744073709551615) (hy : 0 ≤ y) (hy' : y ≤ 18446744073709551615) (hb0 : 0 ≤ b) (hb : b ≤ 1) (w : World) : (callFunc 108 #[.int .u64 x, .int .u64 y, .int .u64 b]).run Try.prog w =
    .ok (.value (.tuple #[.int .u64 ((x - y - b) % 18446744073709551616), .int .u64 (-((x - y - b) / 18446744073709551616))])) w := by
  obtain ⟨x, rfl⟩ := Int.eq_ofNat_of_zero_le hx
  obtain ⟨y, rfl⟩ := Int.eq_ofNat_of_zero_le hy
  obtain ⟨b, rfl⟩ := Int.eq_ofNat_of_zero_le hb0
  have e1 : (((x + 18446744073709551616 - y - b) % 18446744073709551616 : Nat) : Int) = ((x : Int) - y - b) % 18446744073709551616 := by omega
  have e2 : ((if x < y + b then 1 else 0 : Nat) : Int) = -(((x : Int) - y - b) / 18446744073709551616) := by split <;> omega
  rw [← e1, ← e2, run_callFunc_extern Try.func108 (by kernel_rfl) (by kernel_rfl) (by kernel_rfl) (e := sub64Entry) (by kernel_rfl), run_sub64 x y b (by omega)]
  rfl
theorem sub64_1 (x y : Int) (hx : 0 ≤ x) (hx' : x ≤ 18446744073709551615) (hy : 0 ≤ y) (hy' : y ≤ 18446744073709551615) (w : World) : (callFunc 108 #[.int .u64 x, .int .u64 y, .int .u64 0]).run Try.prog w =
    .ok (.value (.tuple #[.int .u64 (d1w x y), .int .u64 (b1w x y)])) w := by
  have h := sub64 x y 0 hx hx' hy hy' (Int.le_refl 0) (by decide) w
  rw [Int.sub_zero] at h
  exact h
theorem sub64_n (x y b : Int) (hx : 0 ≤ x) (hx' : x ≤ 18446744073709551615) (hy : 0 ≤ y) (hy' : y ≤ 18446744073709551615) (hb0 : 0 ≤ b) (hb : b ≤ 1) (w : World) : (callFunc 108 #[.int .u64 x, .int .u64 y, .int .u64 b]).run Try.prog w =
    .ok (.value (.tuple #[.int .u64 (dnw x y b), .int .u64 (bnw x y b)])) w := sub64 x y b hx hx' hy hy' hb0 hb w
set_option maxRecDepth 20000 in
set_option maxHeartbeats 1600000 in
theorem minus_gen (x0 x1 x2 x3 : Int) (y0 y1 y2 y3 : Int) (h : W4 x0 x1 x2 x3) (h' : W4 y0 y1 y2 y3) (w : World) :
    Calls Try.prog 107 #[.agg #[.int .u64 x0, .int .u64 x1, .int .u64 x2, .int .u64 x3], .agg #[.int .u64 y0, .int .u64 y1, .int .u64 y2, .int .u64 y3]] w fun e w' => e = .returned (.agg #[.int .u64 (d1w x0 y0), .int .u64 (dnw x1 y1 (b1w x0 y0)), .int .u64 (dnw x2 y2 (bnw x1 y1 (b1w x0 y0))), .int .u64 (dnw x3 y3 (bnw x2 y2 (bnw x1 y1 (b1w x0 y0))))]) ∧ ∃ c1 c2 c3 c4 n, w' = ((((w.alloc (.cells c1 151)).alloc (.cells c2 151)).alloc (.cells c3 151)).alloc (.cells c4 151)).drewN n := by
  obtain ⟨a0, b0, a1, b1, a2, b2, a3, b3⟩ := h
  obtain ⟨c0, d0, c1, d1, c2, d2, c3, d3⟩ := h'
  obtain ⟨k, hk⟩ : ∃ k, k = b1w x0 y0 := ⟨_, rfl⟩
  obtain ⟨l, hl⟩ : ∃ l, l = bnw x1 y1 k := ⟨_, rfl⟩
  obtain ⟨m, hm⟩ : ∃ m, m = bnw x2 y2 l := ⟨_, rfl⟩
  have e1 : 0 ≤ k := by rw [hk]; exact b1_lo _ _ b0 c0
  have e2 : k ≤ 1 := by rw [hk]; exact b1_hi _ _ a0 d0
  have e3 : 0 ≤ l := by rw [hl]; exact bn_lo _ _ _ b1 c1 e1
  have e4 : l ≤ 1 := by rw [hl]; exact bn_hi _ _ _ a1 d1 e2
  have e5 : 0 ≤ m := by rw [hm]; exact bn_lo _ _ _ b2 c2 e3
  have e6 : m ≤ 1 := by rw [hm]; exact bn_hi _ _ _ a2 d2 e4
  have A0 : ∀ w, (callFunc 108 #[.int .u64 x0, .int .u64 y0, .int .u64 0]).run Try.prog w = .ok (.value (.tuple #[.int .u64 (d1w x0 y0), .int .u64 k])) w := by rw [hk]; exact sub64_1 _ _ a0 b0 c0 d0
  have A1 : ∀ w, (callFunc 108 #[.int .u64 x1, .int .u64 y1, .int .u64 k]).run Try.prog w = .ok (.value (.tuple #[.int .u64 (dnw x1 y1 k), .int .u64 l])) w := by rw [hl]; exact sub64_n _ _ _ a1 b1 c1 d1 e1 e2
  have A2 : ∀ w, (callFunc 108 #[.int .u64 x2, .int .u64 y2, .int .u64 l]).run Try.prog w = .ok (.value (.tuple #[.int .u64 (dnw x2 y2 l), .int .u64 m])) w := by rw [hm]; exact sub64_n _ _ _ a2 b2 c2 d2 e3 e4
  have A3 : ∀ w, (callFunc 108 #[.int .u64 x3, .int .u64 y3, .int .u64 m]).run Try.prog w = .ok (.value (.tuple #[.int .u64 (dnw x3 y3 m), .int .u64 (bnw x3 y3 m)])) w := sub64_n _ _ _ a3 b3 c3 d3 e5 e6
  have G : ∀ o, o = bnw x3 y3 m → True := fun _ _ => trivial
  rw [← hk, ← hl, ← hm]
  clear hk hl hm G
  generalize d1w x0 y0 = r0 at *
  generalize dnw x1 y1 k = r1 at *
  generalize dnw x2 y2 l = r2 at *
  generalize dnw x3 y3 m = r3 at *
  generalize bnw x3 y3 m = o at *
  go_enter Try.func107, Try.ntmps107
  go_wp2
  go_loopw [6, 8] (fun c i wr => ∃ n : Nat, (i = .int .i64 0 ∧ c = .int .u64 0 ∧ wr = ((((w.alloc (.cells #[.int .u64 x0, .int .u64 x1, .int .u64 x2, .int .u64 x3] 151)).alloc (.cells #[.int .u64 y0, .int .u64 y1, .int .u64 y2, .int .u64 y3] 151)).alloc (.cells #[.int .u64 0, .int .u64 0, .int .u64 0, .int .u64 0] 151)).alloc (.cells #[.int .u64 0, .int .u64 0, .int .u64 0, .int .u64 0] 151)).drewN n) ∨ (i = .int .i64 1 ∧ c = .int .u64 k ∧ wr = ((((w.alloc (.cells #[.int .u64 x0, .int .u64 x1, .int .u64 x2, .int .u64 x3] 151)).alloc (.cells #[.int .u64 y0, .int .u64 y1, .int .u64 y2, .int .u64 y3] 151)).alloc (.cells #[.int .u64 0, .int .u64 0, .int .u64 0, .int .u64 0] 151)).alloc (.cells #[.int .u64 r0, .int .u64 0, .int .u64 0, .int .u64 0] 151)).drewN n) ∨ (i = .int .i64 2 ∧ c = .int .u64 l ∧ wr = ((((w.alloc (.cells #[.int .u64 x0, .int .u64 x1, .int .u64 x2, .int .u64 x3] 151)).alloc (.cells #[.int .u64 y0, .int .u64 y1, .int .u64 y2, .int .u64 y3] 151)).alloc (.cells #[.int .u64 0, .int .u64 0, .int .u64 0, .int .u64 0] 151)).alloc (.cells #[.int .u64 r0, .int .u64 r1, .int .u64 0, .int .u64 0] 151)).drewN n) ∨ (i = .int .i64 3 ∧ c = .int .u64 m ∧ wr = ((((w.alloc (.cells #[.int .u64 x0, .int .u64 x1, .int .u64 x2, .int .u64 x3] 151)).alloc (.cells #[.int .u64 y0, .int .u64 y1, .int .u64 y2, .int .u64 y3] 151)).alloc (.cells #[.int .u64 0, .int .u64 0, .int .u64 0, .int .u64 0] 151)).alloc (.cells #[.int .u64 r0, .int .u64 r1, .int .u64 r2, .int .u64 0] 151)).drewN n) ∨ (i = .int .i64 4 ∧ c = .int .u64 o ∧ wr = ((((w.alloc (.cells #[.int .u64 x0, .int .u64 x1, .int .u64 x2, .int .u64 x3] 151)).alloc (.cells #[.int .u64 y0, .int .u64 y1, .int .u64 y2, .int .u64 y3] 151)).alloc (.cells #[.int .u64 0, .int .u64 0, .int .u64 0, .int .u64 0] 151)).alloc (.cells #[.int .u64 r0, .int .u64 r1, .int .u64 r2, .int .u64 r3] 151)).drewN n)) (fun _ i _ => 4 - (intOf i).toNat)
  case atStart => exact ⟨0, .inl ⟨rfl, rfl, by rw [World.drewN_zero]⟩⟩
  case round =>
    obtain ⟨n, ⟨rfl, rfl, rfl⟩ | ⟨rfl, rfl, rfl⟩ | ⟨rfl, rfl, rfl⟩ | ⟨rfl, rfl, rfl⟩ | ⟨rfl, rfl, rfl⟩⟩ := hrel
    · go_wp2
      go_region_with (simp only [A0])
      all_goals
        go_wp2
        go_roundw
        case rel => exact ⟨n + 1, by refine .inr (.inl ⟨rfl, rfl, ?_⟩); rw [setCell_drawn]; simp [go_sem]⟩
        case measure => simp [intOf]
    · go_wp2
      go_region_with (simp only [A1])
      all_goals
        go_wp2
        go_roundw
        case rel => exact ⟨n + 1, by refine .inr (.inr (.inl ⟨rfl, rfl, ?_⟩)); rw [setCell_drawn]; simp [go_sem]⟩
        case measure => simp [intOf]
    · go_wp2
      go_region_with (simp only [A2])
      all_goals
        go_wp2
        go_roundw
        case rel => exact ⟨n + 1, by refine .inr (.inr (.inr (.inl ⟨rfl, rfl, ?_⟩))); rw [setCell_drawn]; simp [go_sem]⟩
        case measure => simp [intOf]
    · go_wp2
      go_region_with (simp only [A3])
      all_goals
        go_wp2
        go_roundw
        case rel => exact ⟨n + 1, by refine .inr (.inr (.inr (.inr ⟨rfl, rfl, ?_⟩))); rw [setCell_drawn]; simp [go_sem]⟩
        case measure => simp [intOf]
    · go_wp2
      simp only [setCell_drawn]
      refine bodyPost_ret (by simp [results, Try.results107, go_sem]) rfl ⟨rfl, ?_⟩
      exact ⟨_, _, _, _, n, by simp [go_sem]; rfl⟩
end Go.Proofs.Ythakafnecddliaa
end
section
namespace Go.Proofs.Ythakafnecddliaa
open Go.ChangeShapes Go.WideShapes Go.ChangeAt Go.RowKit
set_option linter.unusedVariables false

theorem xor_max (x : Int) (h0 : 0 ≤ x) (h1 : x ≤ 18446744073709551615) : bits BinOp.xor IntKind.u64 IntKind.u64.max x = 18446744073709551615 - x := by
  obtain ⟨n, rfl⟩ := Int.eq_ofNat_of_zero_le h0
  have e : IntKind.u64.max = ((18446744073709551615 : Nat) : Int) := rfl
  rw [e]
  refine (u64_xor_nat 18446744073709551615 n (by omega) (by omega)).trans ?_
  rw [Nat.xor_comm]
  have h1 : (BitVec.ofNat 64 n ^^^ BitVec.allOnes 64).toNat = n ^^^ 18446744073709551615 := by
    rw [BitVec.toNat_xor, BitVec.toNat_ofNat, BitVec.toNat_allOnes, Nat.mod_eq_of_lt (by omega)]
  rw [← h1, BitVec.xor_allOnes, BitVec.toNat_not, BitVec.toNat_ofNat, Nat.mod_eq_of_lt (by omega)]
  omega
theorem L_turn (z : Int) : 18446744073709551615 - L0 z = L0 (-z - 1) ∧ 18446744073709551615 - L1 z = L1 (-z - 1) ∧ 18446744073709551615 - L2 z = L2 (-z - 1) ∧ 18446744073709551615 - L3 z = L3 (-z - 1) := by
  unfold L0 L1 L2 L3; omega
theorem L_of (n : Int) (h0 : -9223372036854775808 ≤ n) (h1 : n ≤ 9223372036854775807) : IntKind.u64.wrap n = L0 n ∧ IntKind.u64.wrap (n / 9223372036854775808) = L1 n ∧ IntKind.u64.wrap (n / 9223372036854775808) = L2 n ∧ IntKind.u64.wrap (n / 9223372036854775808) = L3 n := by
  simp only [IntKind.wrap_u64]
  unfold L0 L1 L2 L3
  by_cases h : n < 0
  · have e1 : n / 9223372036854775808 = -1 := by omega
    have e2 : n / 18446744073709551616 = -1 := by omega
    rw [e1, e2]; exact ⟨rfl, by decide, by decide, by decide⟩
  · have e1 : n / 9223372036854775808 = 0 := by omega
    have e2 : n / 18446744073709551616 = 0 := by omega
    rw [e1, e2]; exact ⟨rfl, by decide, by decide, by decide⟩
theorem of_any (n : Int) (h0 : -9223372036854775808 ≤ n) (h1 : n ≤ 9223372036854775807) (w : World) :
    Calls Try.prog 102 #[.int .i64 n] w fun e w' => e = .returned (.agg #[.int .u64 (L0 n), .int .u64 (L1 n), .int .u64 (L2 n), .int .u64 (L3 n)]) ∧ ∃ c1, w' = (w.alloc (.cells c1 140)) := by
  obtain ⟨t0, t1, t2, t3⟩ := L_of n h0 h1
  rw [← t0, ← t3]
  rw [show L1 n = IntKind.u64.wrap (n / 9223372036854775808) from t1.symm, show L2 n = IntKind.u64.wrap (n / 9223372036854775808) from t2.symm]
  clear t0 t1 t2 t3
  go_enter Try.func102, Try.ntmps102
  go_wp2
  exact bodyPost_ret (by simp [results, Try.results102, go_sem]) rfl ⟨rfl, _, rfl⟩
/-- how many bits a word needs, a number of four -/
def wl (x : Int) : Int := Lib.bitLen x.toNat
def bl4 (x0 x1 x2 x3 : Int) : Int := if x3 = 0 then if x2 = 0 then if x1 = 0 then wl x0 else 64 + wl x1 else 128 + wl x2 else 192 + wl x3
theorem wl_le (x : Int) (h0 : 0 ≤ x) (h1 : x ≤ 18446744073709551615) : 0 ≤ wl x ∧ wl x ≤ 64 ∧ x < 2 ^ (wl x).toNat ∧ (x = 0 → wl x = 0) ∧ (x ≠ 0 → 1 ≤ wl x ∧ 2 ^ (wl x - 1).toNat ≤ x) := by
  obtain ⟨n, rfl⟩ := Int.eq_ofNat_of_zero_le h0
  unfold wl Lib.bitLen
  by_cases hn : n = 0
  · subst hn
    simp [Lib.bitLenAux]
  · obtain ⟨b1, b2, b3⟩ := Lib.bitLenAux_bounds 64 n (by omega) hn
    have b4 : Lib.bitLenAux 64 n ≤ 64 := Lib.bitLenAux_le 64 n 64 (by omega)
    have en : ((n : Int).toNat) = n := by omega
    rw [en]
    generalize Lib.bitLenAux 64 n = l at *
    refine ⟨by omega, by omega, ?_, by omega, fun _ => ⟨by omega, ?_⟩⟩
    · have : ((2 : Int) ^ (l : Int).toNat) = ((2 ^ l : Nat) : Int) := by rw [Int.toNat_natCast]; push_cast; rfl
      rw [this]; omega
    · have : ((2 : Int) ^ ((l : Int) - 1).toNat) = ((2 ^ (l - 1) : Nat) : Int) := by rw [show ((l : Int) - 1).toNat = l - 1 by omega]; push_cast; rfl
      rw [this]; omega
/-- how many bits a number needs -/
def blz (a : Int) : Int := bl4 (L0 a) (L1 a) (L2 a) (L3 a)
theorem pow_up (n : Nat) (l : Int) (h : 0 ≤ l) : (2 : Int) ^ ((n : Int) + l).toNat = 2 ^ n * 2 ^ l.toNat := by
  rw [show ((n : Int) + l).toNat = n + l.toNat by omega, Int.pow_add]
theorem bl_prop (a : Int) (h : Siz a) : 0 ≤ blz a ∧ blz a ≤ 256 ∧ a < 2 ^ (blz a).toNat ∧ (a ≠ 0 → 1 ≤ blz a ∧ 2 ^ (blz a - 1).toNat ≤ a) := by
  obtain ⟨a0, b0, a1, b1, a2, b2, a3, b3⟩ := W4.of a
  obtain ⟨h0, h1⟩ := h
  have e : a = L0 a + 18446744073709551616 * L1 a + 340282366920938463463374607431768211456 * L2 a + 6277101735386680763835789423207666416102355444464034512896 * L3 a := by unfold L0 L1 L2 L3; omega
  unfold blz bl4
  obtain ⟨k0, l0, m0, n0, o0⟩ := wl_le _ a0 b0
  obtain ⟨k1, l1, m1, n1, o1⟩ := wl_le _ a1 b1
  obtain ⟨k2, l2, m2, n2, o2⟩ := wl_le _ a2 b2
  obtain ⟨k3, l3, m3, n3, o3⟩ := wl_le _ a3 b3
  generalize L0 a = x0 at *; generalize L1 a = x1 at *; generalize L2 a = x2 at *; generalize L3 a = x3 at *
  have p1 : (2 : Int) ^ 64 = 18446744073709551616 := by decide +kernel
  have p2 : (2 : Int) ^ 128 = 340282366920938463463374607431768211456 := by decide +kernel
  have p3 : (2 : Int) ^ 192 = 6277101735386680763835789423207666416102355444464034512896 := by decide +kernel
  by_cases e3 : x3 = 0
  · rw [if_pos e3]
    by_cases e2 : x2 = 0
    · rw [if_pos e2]
      by_cases e1 : x1 = 0
      · rw [if_pos e1]
        refine ⟨k0, by omega, by omega, fun hn => ?_⟩
        obtain ⟨q1, q2⟩ := o0 (by omega)
        exact ⟨q1, by omega⟩
      · rw [if_neg e1]
        obtain ⟨q1, q2⟩ := o1 e1
        have r1 := pow_up 64 (wl x1) k1
        have r2 := pow_up 64 (wl x1 - 1) (by omega)
        rw [p1] at r1 r2
        have r3 : (((64 : Nat) : Int) + (wl x1 - 1)) = 64 + wl x1 - 1 := by omega
        rw [r3] at r2
        refine ⟨by omega, by omega, ?_, fun _ => ⟨by omega, ?_⟩⟩
        · rw [show (64 + wl x1).toNat = (((64 : Nat) : Int) + wl x1).toNat from rfl, r1]; omega
        · rw [r2]; omega
    · rw [if_neg e2]
      obtain ⟨q1, q2⟩ := o2 e2
      have r1 := pow_up 128 (wl x2) k2
      have r2 := pow_up 128 (wl x2 - 1) (by omega)
      rw [p2] at r1 r2
      have r3 : (((128 : Nat) : Int) + (wl x2 - 1)) = 128 + wl x2 - 1 := by omega
      rw [r3] at r2
      refine ⟨by omega, by omega, ?_, fun _ => ⟨by omega, ?_⟩⟩
      · rw [show (128 + wl x2).toNat = (((128 : Nat) : Int) + wl x2).toNat from rfl, r1]; omega
      · rw [r2]; omega
  · rw [if_neg e3]
    obtain ⟨q1, q2⟩ := o3 e3
    have r1 := pow_up 192 (wl x3) k3
    have r2 := pow_up 192 (wl x3 - 1) (by omega)
    rw [p3] at r1 r2
    have r3 : (((192 : Nat) : Int) + (wl x3 - 1)) = 192 + wl x3 - 1 := by omega
    rw [r3] at r2
    refine ⟨by omega, by omega, ?_, fun _ => ⟨by omega, ?_⟩⟩
    · rw [show (192 + wl x3).toNat = (((192 : Nat) : Int) + wl x3).toNat from rfl, r1]; omega
    · rw [r2]; omega
end Go.Proofs.Ythakafnecddliaa
end
section
namespace Go.Proofs.Ythakafnecddliaa
open Go.ChangeShapes Go.WideShapes Go.ChangeAt Go.RowKit
set_option linter.unusedVariables false

/-- what comparing the first n words, from the highest on, answers -/
def cmpW (X Y : Nat → Int) : Nat → Int
  | 0 => 0
  | n + 1 => if X n < Y n then -1 else if X n > Y n then 1 else cmpW X Y n
theorem cmpW_lt {X Y : Nat → Int} {n : Nat} (h : X n < Y n) : cmpW X Y (n + 1) = -1 := by simp [cmpW, h]
theorem cmpW_gt {X Y : Nat → Int} {n : Nat} (h : Y n < X n) : cmpW X Y (n + 1) = 1 := by
  have : ¬ X n < Y n := by omega
  simp [cmpW, h, this]
theorem cmpW_eq {X Y : Nat → Int} {n : Nat} (h : X n = Y n) : cmpW X Y (n + 1) = cmpW X Y n := by simp [cmpW, h]

set_option maxHeartbeats 1600000 in
set_option maxRecDepth 20000 in
theorem compare_any (X Y : Nat → Int) (p q n c d : Nat) (hn : n ≤ 8) (w : World) (hX : ∀ i, i < n → w.cell? ⟨p, i, none⟩ = some (.int .u64 (X i))) (hY : ∀ i, i < n → w.cell? ⟨q, i, none⟩ = some (.int .u64 (Y i))) :
    Calls Try.prog 101 #[.slice (some ⟨p, 0, none⟩) n c, .slice (some ⟨q, 0, none⟩) n d] w fun e w' => e = .returned (.int .i64 (cmpW X Y n)) ∧ ∃ m, w' = w.drewN m := by
  have HX := Lib.hid hX; have HY := Lib.hid hY
  clear hX hY
  go_enter Try.func101, Try.ntmps101
  go_wp2
  go_loopw [5] (fun i wr => ∃ k m : Nat, k ≤ n ∧ Hid (cmpW X Y n = cmpW X Y k) ∧ i = .int .i64 ((k : Int) - 1) ∧ wr = w.drewN m) (fun i _ => (intOf i + 1).toNat)
  case atStart => exact ⟨n, 0, Nat.le_refl _, rfl, rfl, by rw [World.drewN_zero]⟩
  case round =>
    obtain ⟨k, m, hk, HK, rfl, rfl⟩ := hrel
    by_cases hk0 : k = 0
    · subst hk0
      go_wp2
      go_ret
      exact ⟨ret_eq (by rw [HK.out]; rfl), m, rfl⟩
    · obtain ⟨j, rfl⟩ : ∃ j, k = j + 1 := ⟨k - 1, by omega⟩
      have hx := HX.out j (by omega)
      have hy := HY.out j (by omega)
      have i0 : (0 : Int) ≤ (j : Int) := by omega
      have i1 : (j : Int) < (n : Int) := by omega
      have i2 : ((j + 1 : Nat) : Int) - 1 = (j : Int) := by omega
      rw [i2]
      clear i2 hk0
      by_cases hl : X j < Y j
      · have HL := Lib.hid (cmpW_lt hl)
        go_wp2
        go_region
        all_goals
          go_wp2
          go_ret
          exact ⟨ret_eq (by rw [HK.out, HL.out]), m + 1, rfl⟩
      · by_cases hg : Y j < X j
        · have HL := Lib.hid (cmpW_gt hg)
          have d1 : decide (X j < Y j) = false := by simpa using hl
          clear hl
          go_wp2
          go_region
          all_goals
            go_wp2
            go_region
            all_goals
              go_wp2
              go_ret
              exact ⟨ret_eq (by rw [HK.out, HL.out]), m + 1 + 1, rfl⟩
        · have HL := Lib.hid (cmpW_eq (X := X) (Y := Y) (n := j) (by omega))
          have d1 : decide (X j < Y j) = false := by simpa using hl
          have d2 : decide (Y j < X j) = false := by simpa using hg
          clear hl hg
          go_wp2
          go_region
          all_goals
            go_wp2
            go_region
            all_goals
              go_wp2
              go_roundw
              case rel => exact ⟨j, m + 1 + 1, by omega, by unfold Hid; rw [HK.out, HL.out], rfl, rfl⟩
              case measure => simp [intOf]
end Go.Proofs.Ythakafnecddliaa
end
section
namespace Go.Proofs.Ythakafnecddliaa
open Go.ChangeShapes Go.WideShapes Go.ChangeAt Go.RowKit
set_option linter.unusedVariables false

/-- a word moved up, alone and with what comes in from the word below -/
def su (x r : Int) : Int := IntKind.u64.wrap (x * 2 ^ r.toNat)
def so (x y r : Int) : Int := bits .or .u64 (IntKind.u64.wrap (x * 2 ^ r.toNat)) (y / 2 ^ (64 - r).toNat)
end Go.Proofs.Ythakafnecddliaa
end
section
namespace Go.Proofs.Ythakafnecddliaa
open Go.ChangeShapes Go.WideShapes Go.ChangeAt Go.RowKit
set_option linter.unusedVariables false

/-- a word moved down, alone and with what comes in from the word above -/
def sd (x r : Int) : Int := x / 2 ^ r.toNat
def sp (x y r : Int) : Int := bits .or .u64 (x / 2 ^ r.toNat) (IntKind.u64.wrap (y * 2 ^ (64 - r).toNat))
end Go.Proofs.Ythakafnecddliaa
end
section
namespace Go.Proofs.Ythakafnecddliaa
open Go.ChangeShapes Go.WideShapes Go.ChangeAt Go.RowKit
set_option linter.unusedVariables false

theorem div_words (a n r : Int) (k : Nat) (h : n.toNat = r.toNat + 64 * k) : a / 2 ^ n.toNat = a / 18446744073709551616 ^ k / 2 ^ r.toNat := by
  rw [pow_words n.toNat r.toNat k h, Int.mul_comm, ← ediv2 a _ (Int.le_of_lt (Int.pow_pos (by decide)))]
end Go.Proofs.Ythakafnecddliaa
end
section
namespace Go.Proofs.Ythakafnecddliaa
open Go.ChangeShapes Go.WideShapes Go.ChangeAt Go.RowKit Go.Shelf
set_option linter.unusedVariables false

theorem below_any (z : Int) (w : World) :
    Calls Try.prog 104 #[.agg #[.int .u64 (L0 z), .int .u64 (L1 z), .int .u64 (L2 z), .int .u64 (L3 z)]] w fun e w' => e = .returned (.bool (ngB z)) ∧ ∃ c, w' = w.alloc (.cells c 140) := below_gen _ _ _ _ (W4.of z) w
theorem below_is {z : Int} {s : Bool} (h : ngB z = s) (w : World) :
    Calls Try.prog 104 #[.agg #[.int .u64 (L0 z), .int .u64 (L1 z), .int .u64 (L2 z), .int .u64 (L3 z)]] w fun e w' => e = .returned (.bool s) ∧ ∃ c, w' = w.alloc (.cells c 140) := h ▸ below_any z w
theorem minus_any (a b : Int) (w : World) :
    Calls Try.prog 107 #[.agg #[.int .u64 (L0 a), .int .u64 (L1 a), .int .u64 (L2 a), .int .u64 (L3 a)], .agg #[.int .u64 (L0 b), .int .u64 (L1 b), .int .u64 (L2 b), .int .u64 (L3 b)]] w fun e w' => e = .returned (.agg #[.int .u64 (L0 (a - b)), .int .u64 (L1 (a - b)), .int .u64 (L2 (a - b)), .int .u64 (L3 (a - b))]) ∧ ∃ c1 c2 c3 c4 n, w' = ((((w.alloc (.cells c1 151)).alloc (.cells c2 151)).alloc (.cells c3 151)).alloc (.cells c4 151)).drewN n := by
  obtain ⟨h0, h1, h2, h3⟩ := L_sub (a := a) (b := b) ⟨rfl, rfl, rfl, rfl⟩ ⟨rfl, rfl, rfl, rfl⟩
  rw [← h0, ← h1, ← h2, ← h3]
  exact minus_gen _ _ _ _ _ _ _ _ (W4.of a) (W4.of b) w
end Go.Proofs.Ythakafnecddliaa
end
section
namespace Go.Proofs.Ythakafnecddliaa
open Go.ChangeShapes Go.WideShapes Go.ChangeAt Go.RowKit
set_option linter.unusedVariables false

theorem minus_b (a b : Int) (w : World) :
    Calls Try.prog 107 #[.agg #[.int .u64 (L0 a), .int .u64 (L1 a), .int .u64 (L2 a), .int .u64 (L3 a)], .agg #[.int .u64 (L0 b), .int .u64 (L1 b), .int .u64 (L2 b), .int .u64 (L3 b)]] w fun e w' => e = .returned (.agg #[.int .u64 (L0 (a - b)), .int .u64 (L1 (a - b)), .int .u64 (L2 (a - b)), .int .u64 (L3 (a - b))]) ∧ Bel w.heap.size w w' :=
  (minus_any a b w).mono fun e w' ⟨he, c1, c2, c3, c4, m, hw⟩ => ⟨he, by rw [hw]; repeat' (first | (with_reducible exact Bel.refl _ _) | (with_reducible assumption) | (with_reducible refine bel_drewN ?_ _) | (with_reducible refine Bel.drew ?_) | (with_reducible refine Bel.alloc ?_ ?_ _) | (with_reducible refine Bel.setCell ?_ ?_ _) | (with_reducible refine thenB ?_ (by with_reducible assumption) ?_) | (with_reducible exact Nat.le_refl _) | (with_reducible exact Nat.le_succ _) | (with_reducible exact Nat.le_succ_of_le (by with_reducible assumption)) | omega | (simp; done) | (simp; omega) | (exact Nat.le_succ _) | (exact Nat.le_succ_of_le (by with_reducible assumption)))⟩
theorem cmp_siz {r s : Int} (hr : Siz r) (hs : Siz s) : cmpW (Lf r) (Lf s) 4 = if r < s then -1 else if s < r then 1 else 0 := by
  obtain ⟨h0, h1⟩ := hr; obtain ⟨h2, h3⟩ := hs
  have e : ∀ z : Int, 0 ≤ z → z ≤ 115792089237316195423570985008687907853269984665640564039457584007913129639935 → z = L0 z + 18446744073709551616 * L1 z + 340282366920938463463374607431768211456 * L2 z + 6277101735386680763835789423207666416102355444464034512896 * L3 z := fun z _ _ => by unfold L0 L1 L2 L3; omega
  have er := e r h0 h1; have es := e s h2 h3
  obtain ⟨a0, b0, a1, b1, a2, b2, a3, b3⟩ := W4.of r
  obtain ⟨c0, d0, c1, d1, c2, d2, c3, d3⟩ := W4.of s
  unfold cmpW cmpW cmpW cmpW cmpW Lf
  simp only []
  generalize L0 r = x0 at *; generalize L1 r = x1 at *; generalize L2 r = x2 at *; generalize L3 r = x3 at *
  generalize L0 s = y0 at *; generalize L1 s = y1 at *; generalize L2 s = y2 at *; generalize L3 s = y3 at *
  repeat' split
  all_goals first | rfl | omega
theorem eq_first (x0 x1 x2 x3 : Int) (w : World) : (Op.equalIn 10000 151 (.agg #[.int .u64 x0, .int .u64 x1, .int .u64 x2, .int .u64 x3]) (.agg #[.int .u64 x0, .int .u64 0, .int .u64 0, .int .u64 0])).run Try.prog w = .ok (decide (x1 = 0 ∧ x2 = 0 ∧ x3 = 0)) w := by
  rw [eq_size]; simp
end Go.Proofs.Ythakafnecddliaa
end
section
namespace Go.Proofs.Ythakafnecddliaa
open Go.ChangeShapes Go.WideShapes Go.ChangeAt Go.RowKit
set_option linter.unusedVariables false

end Go.Proofs.Ythakafnecddliaa
end
section
namespace Go.Proofs.Ythakafnecddliaa
open Go.ChangeShapes Go.WideShapes Go.ChangeAt Go.RowKit
set_option linter.unusedVariables false

theorem small_L {a : Int} (h : Siz a) (h1 : L1 a = 0) (h2 : L2 a = 0) (h3 : L3 a = 0) : L0 a = a ∧ a ≤ 18446744073709551615 := by
  obtain ⟨_, _⟩ := h
  unfold L0 L1 L2 L3 at *; omega
theorem L_small {a : Int} (h0 : 0 ≤ a) (h : a ≤ 18446744073709551615) : L0 a = a ∧ L1 a = 0 ∧ L2 a = 0 ∧ L3 a = 0 := by
  unfold L0 L1 L2 L3; omega
end Go.Proofs.Ythakafnecddliaa
end
