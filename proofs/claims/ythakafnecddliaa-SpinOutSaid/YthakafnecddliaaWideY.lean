/- -/
import Derived.Test.YthakafnecddliaaEq
import Derived.Test.YthakafnecddliaaShelf
import Derived.Test.YthakafnecddliaaRatM
import Derived.Lib.ItoaNum
import Derived.WalkSpells
import Derived.Handy
import Derived.Deep.QuietTactic
import Derived.BigQuiet
import Derived.Test.YthakafnecddliaaDivM
import Derived.IntWalk
section
namespace Go.Proofs.Ythakafnecddliaa
open Go.ChangeShapes Go.WideShapes Go.ChangeAt Go.RowKit Go.Shelf
set_option linter.unusedVariables false

/-- the borrows of a difference -/
def b1w (x0 y0 : Int) : Int := -((x0 - y0) / 18446744073709551616)
def bnw (x y c : Int) : Int := -((x - y - c) / 18446744073709551616)
theorem b1_lo (x0 y0 : Int) (h : x0 ≤ 18446744073709551615) (h' : 0 ≤ y0) : 0 ≤ b1w x0 y0 := by unfold b1w; omega
theorem b1_hi (x0 y0 : Int) (h : 0 ≤ x0) (h' : y0 ≤ 18446744073709551615) : b1w x0 y0 ≤ 1 := by unfold b1w; omega
theorem bn_lo (x y c : Int) (h : x ≤ 18446744073709551615) (h' : 0 ≤ y) (h2 : 0 ≤ c) : 0 ≤ bnw x y c := by unfold bnw; omega
theorem bn_hi (x y c : Int) (h : 0 ≤ x) (h' : y ≤ 18446744073709551615) (h2 : c ≤ 1) : bnw x y c ≤ 1 := by unfold bnw; omega
def d1w (x0 y0 : Int) : Int := (x0 - y0) % 18446744073709551616
def dnw (x y c : Int) : Int := (x - y - c) % 18446744073709551616
theorem sub64 (x y b : Int) (hx : 0 ≤ x) (hx' : x ≤ 18446744073709551615) (hy : 0 ≤ y) (hy' : y ≤ 18446744073709551615) (hb0 : 0 ≤ b) (hb : b ≤ 1) (w : World) : (callFunc 108 #[.int .u64 x, .int .u64 y, .int .u64 b]).run Try.prog w =
    .ok (.value (.tuple #[.int .u64 ((x - y - b) % 18446744073709551616), .int .u64 (-((x - y - b) / 18446744073709551616))])) w := by
  obtain ⟨x, rfl⟩ := Int.eq_ofNat_of_zero_le hx
  obtain ⟨y, rfl⟩ := Int.eq_ofNat_of_zero_le hy
  obtain ⟨b, rfl⟩ := Int.eq_ofNat_of_zero_le hb0
  have e1 : (((x + 18446744073709551616 - y - b) % 18446744073709551616 : Nat) : Int) = ((x : Int) - y - b) % 18446744073709551616 := by omega
  have e2 : ((if x < y + b then 1 else 0 : Nat) : Int) = -(((x : Int) - y - b) / 18446744073709551616) := by split <;> omega
  rw [← e1, ← e2, run_callFunc_extern Try.func108 (by kernel_rfl) (by kernel_rfl) (by kernel_rfl) (e := sub64Entry) (by kernel_rfl), run_sub64 x y b (by omega)]
  rfl
theorem sub64_1 (x y : Int) (hx : 0 ≤ x) (hx' : x ≤ 18446744073709551615) (hy : 0 ≤ y) (hy' : y ≤ 18446744073709551615) (w : World) : (callFunc 108 #[.int .u64 x, .int .u64 y, .int .u64 0]).run Try.prog w =
    .ok (.value (.tuple #[.int .u64 (d1w x y), .int .u64 (b1w x y)])) w := by
  have h := sub64 x y 0 hx hx' hy hy' (Int.le_refl 0) (by decide) w
  rw [Int.sub_zero] at h
  exact h
theorem sub64_n (x y b : Int) (hx : 0 ≤ x) (hx' : x ≤ 18446744073709551615) (hy : 0 ≤ y) (hy' : y ≤ 18446744073709551615) (hb0 : 0 ≤ b) (hb : b ≤ 1) (w : World) : (callFunc 108 #[.int .u64 x, .int .u64 y, .int .u64 b]).run Try.prog w =
    .ok (.value (.tuple #[.int .u64 (dnw x y b), .int .u64 (bnw x y b)])) w := sub64 x y b hx hx' hy hy' hb0 hb w
set_option maxRecDepth 20000 in
set_option maxHeartbeats 1600000 in
theorem minus_gen (x0 x1 x2 x3 : Int) (y0 y1 y2 y3 : Int) (h : W4 x0 x1 x2 x3) (h' : W4 y0 y1 y2 y3) (w : World) :
    Calls Try.prog 107 #[.agg #[.int .u64 x0, .int .u64 x1, .int .u64 x2, .int .u64 x3], .agg #[.int .u64 y0, .int .u64 y1, .int .u64 y2, .int .u64 y3]] w fun e w' => e = .returned (.agg #[.int .u64 (d1w x0 y0), .int .u64 (dnw x1 y1 (b1w x0 y0)), .int .u64 (dnw x2 y2 (bnw x1 y1 (b1w x0 y0))), .int .u64 (dnw x3 y3 (bnw x2 y2 (bnw x1 y1 (b1w x0 y0))))]) ∧ ∃ c1 c2 c3 c4 n, w' = ((((w.alloc (.cells c1 151)).alloc (.cells c2 151)).alloc (.cells c3 151)).alloc (.cells c4 151)).drewN n := by
  obtain ⟨a0, b0, a1, b1, a2, b2, a3, b3⟩ := h
  obtain ⟨c0, d0, c1, d1, c2, d2, c3, d3⟩ := h'
  obtain ⟨k, hk⟩ : ∃ k, k = b1w x0 y0 := ⟨_, rfl⟩
  obtain ⟨l, hl⟩ : ∃ l, l = bnw x1 y1 k := ⟨_, rfl⟩
  obtain ⟨m, hm⟩ : ∃ m, m = bnw x2 y2 l := ⟨_, rfl⟩
  have e1 : 0 ≤ k := by rw [hk]; exact b1_lo _ _ b0 c0
  have e2 : k ≤ 1 := by rw [hk]; exact b1_hi _ _ a0 d0
  have e3 : 0 ≤ l := by rw [hl]; exact bn_lo _ _ _ b1 c1 e1
  have e4 : l ≤ 1 := by rw [hl]; exact bn_hi _ _ _ a1 d1 e2
  have e5 : 0 ≤ m := by rw [hm]; exact bn_lo _ _ _ b2 c2 e3
  have e6 : m ≤ 1 := by rw [hm]; exact bn_hi _ _ _ a2 d2 e4
  have A0 : ∀ w, (callFunc 108 #[.int .u64 x0, .int .u64 y0, .int .u64 0]).run Try.prog w = .ok (.value (.tuple #[.int .u64 (d1w x0 y0), .int .u64 k])) w := by rw [hk]; exact sub64_1 _ _ a0 b0 c0 d0
  have A1 : ∀ w, (callFunc 108 #[.int .u64 x1, .int .u64 y1, .int .u64 k]).run Try.prog w = .ok (.value (.tuple #[.int .u64 (dnw x1 y1 k), .int .u64 l])) w := by rw [hl]; exact sub64_n _ _ _ a1 b1 c1 d1 e1 e2
  have A2 : ∀ w, (callFunc 108 #[.int .u64 x2, .int .u64 y2, .int .u64 l]).run Try.prog w = .ok (.value (.tuple #[.int .u64 (dnw x2 y2 l), .int .u64 m])) w := by rw [hm]; exact sub64_n _ _ _ a2 b2 c2 d2 e3 e4
  have A3 : ∀ w, (callFunc 108 #[.int .u64 x3, .int .u64 y3, .int .u64 m]).run Try.prog w = .ok (.value (.tuple #[.int .u64 (dnw x3 y3 m), .int .u64 (bnw x3 y3 m)])) w := sub64_n _ _ _ a3 b3 c3 d3 e5 e6
  have G : ∀ o, o = bnw x3 y3 m → True := fun _ _ => trivial
  rw [← hk, ← hl, ← hm]
  clear hk hl hm G
  generalize d1w x0 y0 = r0 at *
  generalize dnw x1 y1 k = r1 at *
  generalize dnw x2 y2 l = r2 at *
  generalize dnw x3 y3 m = r3 at *
  generalize bnw x3 y3 m = o at *
  go_enter Try.func107, Try.ntmps107
  go_wp2
  go_loopw [6, 8] (fun c i wr => ∃ n : Nat, (i = .int .i64 0 ∧ c = .int .u64 0 ∧ wr = ((((w.alloc (.cells #[.int .u64 x0, .int .u64 x1, .int .u64 x2, .int .u64 x3] 151)).alloc (.cells #[.int .u64 y0, .int .u64 y1, .int .u64 y2, .int .u64 y3] 151)).alloc (.cells #[.int .u64 0, .int .u64 0, .int .u64 0, .int .u64 0] 151)).alloc (.cells #[.int .u64 0, .int .u64 0, .int .u64 0, .int .u64 0] 151)).drewN n) ∨ (i = .int .i64 1 ∧ c = .int .u64 k ∧ wr = ((((w.alloc (.cells #[.int .u64 x0, .int .u64 x1, .int .u64 x2, .int .u64 x3] 151)).alloc (.cells #[.int .u64 y0, .int .u64 y1, .int .u64 y2, .int .u64 y3] 151)).alloc (.cells #[.int .u64 0, .int .u64 0, .int .u64 0, .int .u64 0] 151)).alloc (.cells #[.int .u64 r0, .int .u64 0, .int .u64 0, .int .u64 0] 151)).drewN n) ∨ (i = .int .i64 2 ∧ c = .int .u64 l ∧ wr = ((((w.alloc (.cells #[.int .u64 x0, .int .u64 x1, .int .u64 x2, .int .u64 x3] 151)).alloc (.cells #[.int .u64 y0, .int .u64 y1, .int .u64 y2, .int .u64 y3] 151)).alloc (.cells #[.int .u64 0, .int .u64 0, .int .u64 0, .int .u64 0] 151)).alloc (.cells #[.int .u64 r0, .int .u64 r1, .int .u64 0, .int .u64 0] 151)).drewN n) ∨ (i = .int .i64 3 ∧ c = .int .u64 m ∧ wr = ((((w.alloc (.cells #[.int .u64 x0, .int .u64 x1, .int .u64 x2, .int .u64 x3] 151)).alloc (.cells #[.int .u64 y0, .int .u64 y1, .int .u64 y2, .int .u64 y3] 151)).alloc (.cells #[.int .u64 0, .int .u64 0, .int .u64 0, .int .u64 0] 151)).alloc (.cells #[.int .u64 r0, .int .u64 r1, .int .u64 r2, .int .u64 0] 151)).drewN n) ∨ (i = .int .i64 4 ∧ c = .int .u64 o ∧ wr = ((((w.alloc (.cells #[.int .u64 x0, .int .u64 x1, .int .u64 x2, .int .u64 x3] 151)).alloc (.cells #[.int .u64 y0, .int .u64 y1, .int .u64 y2, .int .u64 y3] 151)).alloc (.cells #[.int .u64 0, .int .u64 0, .int .u64 0, .int .u64 0] 151)).alloc (.cells #[.int .u64 r0, .int .u64 r1, .int .u64 r2, .int .u64 r3] 151)).drewN n)) (fun _ i _ => 4 - (intOf i).toNat)
  case atStart => exact ⟨0, .inl ⟨rfl, rfl, by rw [World.drewN_zero]⟩⟩
  case round =>
    obtain ⟨n, ⟨rfl, rfl, rfl⟩ | ⟨rfl, rfl, rfl⟩ | ⟨rfl, rfl, rfl⟩ | ⟨rfl, rfl, rfl⟩ | ⟨rfl, rfl, rfl⟩⟩ := hrel
    · go_wp2
      go_region_with (simp only [A0])
      all_goals
        go_wp2
        go_roundw
        case rel => exact ⟨n + 1, by refine .inr (.inl ⟨rfl, rfl, ?_⟩); rw [setCell_drawn]; simp [go_sem]⟩
        case measure => simp [intOf]
    · go_wp2
      go_region_with (simp only [A1])
      all_goals
        go_wp2
        go_roundw
        case rel => exact ⟨n + 1, by refine .inr (.inr (.inl ⟨rfl, rfl, ?_⟩)); rw [setCell_drawn]; simp [go_sem]⟩
        case measure => simp [intOf]
    · go_wp2
      go_region_with (simp only [A2])
      all_goals
        go_wp2
        go_roundw
        case rel => exact ⟨n + 1, by refine .inr (.inr (.inr (.inl ⟨rfl, rfl, ?_⟩))); rw [setCell_drawn]; simp [go_sem]⟩
        case measure => simp [intOf]
    · go_wp2
      go_region_with (simp only [A3])
      all_goals
        go_wp2
        go_roundw
        case rel => exact ⟨n + 1, by refine .inr (.inr (.inr (.inr ⟨rfl, rfl, ?_⟩))); rw [setCell_drawn]; simp [go_sem]⟩
        case measure => simp [intOf]
    · go_wp2
      simp only [setCell_drawn]
      refine bodyPost_ret (by simp [results, Try.results107, go_sem]) rfl ⟨rfl, ?_⟩
      exact ⟨_, _, _, _, n, by simp [go_sem]; rfl⟩
end Go.Proofs.Ythakafnecddliaa
end
section
namespace Go.Proofs.Ythakafnecddliaa
open Go.ChangeShapes Go.WideShapes Go.ChangeAt Go.RowKit
set_option linter.unusedVariables false

theorem L_of (n : Int) (h0 : -9223372036854775808 ≤ n) (h1 : n ≤ 9223372036854775807) : IntKind.u64.wrap n = L0 n ∧ IntKind.u64.wrap (n / 9223372036854775808) = L1 n ∧ IntKind.u64.wrap (n / 9223372036854775808) = L2 n ∧ IntKind.u64.wrap (n / 9223372036854775808) = L3 n := by
  simp only [IntKind.wrap_u64]
  unfold L0 L1 L2 L3
  by_cases h : n < 0
  · have e1 : n / 9223372036854775808 = -1 := by omega
    have e2 : n / 18446744073709551616 = -1 := by omega
    rw [e1, e2]; exact ⟨rfl, by decide, by decide, by decide⟩
  · have e1 : n / 9223372036854775808 = 0 := by omega
    have e2 : n / 18446744073709551616 = 0 := by omega
    rw [e1, e2]; exact ⟨rfl, by decide, by decide, by decide⟩
theorem of_any (n : Int) (h0 : -9223372036854775808 ≤ n) (h1 : n ≤ 9223372036854775807) (w : World) :
    Calls Try.prog 102 #[.int .i64 n] w fun e w' => e = .returned (.agg #[.int .u64 (L0 n), .int .u64 (L1 n), .int .u64 (L2 n), .int .u64 (L3 n)]) ∧ ∃ c1, w' = (w.alloc (.cells c1 140)) := by
  obtain ⟨t0, t1, t2, t3⟩ := L_of n h0 h1
  rw [← t0, ← t3]
  rw [show L1 n = IntKind.u64.wrap (n / 9223372036854775808) from t1.symm, show L2 n = IntKind.u64.wrap (n / 9223372036854775808) from t2.symm]
  clear t0 t1 t2 t3
  go_enter Try.func102, Try.ntmps102
  go_wp2
  exact bodyPost_ret (by simp [results, Try.results102, go_sem]) rfl ⟨rfl, _, rfl⟩
end Go.Proofs.Ythakafnecddliaa
end
section
namespace Go.Proofs.Ythakafnecddliaa
open Go.ChangeShapes Go.WideShapes Go.ChangeAt Go.RowKit
set_option linter.unusedVariables false

/-- what comparing the first n words, from the highest on, answers -/
def cmpW (X Y : Nat → Int) : Nat → Int
  | 0 => 0
  | n + 1 => if X n < Y n then -1 else if X n > Y n then 1 else cmpW X Y n
theorem cmpW_lt {X Y : Nat → Int} {n : Nat} (h : X n < Y n) : cmpW X Y (n + 1) = -1 := by simp [cmpW, h]
theorem cmpW_gt {X Y : Nat → Int} {n : Nat} (h : Y n < X n) : cmpW X Y (n + 1) = 1 := by
  have : ¬ X n < Y n := by omega
  simp [cmpW, h, this]
theorem cmpW_eq {X Y : Nat → Int} {n : Nat} (h : X n = Y n) : cmpW X Y (n + 1) = cmpW X Y n := by simp [cmpW, h]

set_option maxHeartbeats 1600000 in
set_option maxRecDepth 20000 in
theorem compare_any (X Y : Nat → Int) (p q n c d : Nat) (hn : n ≤ 8) (w : World) (hX : ∀ i, i < n → w.cell? ⟨p, i, none⟩ = some (.int .u64 (X i))) (hY : ∀ i, i < n → w.cell? ⟨q, i, none⟩ = some (.int .u64 (Y i))) :
    Calls Try.prog 101 #[.slice (some ⟨p, 0, none⟩) n c, .slice (some ⟨q, 0, none⟩) n d] w fun e w' => e = .returned (.int .i64 (cmpW X Y n)) ∧ ∃ m, w' = w.drewN m := by
  have HX := Lib.hid hX; have HY := Lib.hid hY
  clear hX hY
  go_enter Try.func101, Try.ntmps101
  go_wp2
  go_loopw [5] (fun i wr => ∃ k m : Nat, k ≤ n ∧ Hid (cmpW X Y n = cmpW X Y k) ∧ i = .int .i64 ((k : Int) - 1) ∧ wr = w.drewN m) (fun i _ => (intOf i + 1).toNat)
  case atStart => exact ⟨n, 0, Nat.le_refl _, rfl, rfl, by rw [World.drewN_zero]⟩
  case round =>
    obtain ⟨k, m, hk, HK, rfl, rfl⟩ := hrel
    by_cases hk0 : k = 0
    · subst hk0
      go_wp2
      go_ret
      exact ⟨ret_eq (by rw [HK.out]; rfl), m, rfl⟩
    · obtain ⟨j, rfl⟩ : ∃ j, k = j + 1 := ⟨k - 1, by omega⟩
      have hx := HX.out j (by omega)
      have hy := HY.out j (by omega)
      have i0 : (0 : Int) ≤ (j : Int) := by omega
      have i1 : (j : Int) < (n : Int) := by omega
      have i2 : ((j + 1 : Nat) : Int) - 1 = (j : Int) := by omega
      rw [i2]
      clear i2 hk0
      by_cases hl : X j < Y j
      · have HL := Lib.hid (cmpW_lt hl)
        go_wp2
        go_region
        all_goals
          go_wp2
          go_ret
          exact ⟨ret_eq (by rw [HK.out, HL.out]), m + 1, rfl⟩
      · by_cases hg : Y j < X j
        · have HL := Lib.hid (cmpW_gt hg)
          have d1 : decide (X j < Y j) = false := by simpa using hl
          clear hl
          go_wp2
          go_region
          all_goals
            go_wp2
            go_region
            all_goals
              go_wp2
              go_ret
              exact ⟨ret_eq (by rw [HK.out, HL.out]), m + 1 + 1, rfl⟩
        · have HL := Lib.hid (cmpW_eq (X := X) (Y := Y) (n := j) (by omega))
          have d1 : decide (X j < Y j) = false := by simpa using hl
          have d2 : decide (Y j < X j) = false := by simpa using hg
          clear hl hg
          go_wp2
          go_region
          all_goals
            go_wp2
            go_region
            all_goals
              go_wp2
              go_roundw
              case rel => exact ⟨j, m + 1 + 1, by omega, by unfold Hid; rw [HK.out, HL.out], rfl, rfl⟩
              case measure => simp [intOf]
end Go.Proofs.Ythakafnecddliaa
end
section
namespace Go.Proofs.Ythakafnecddliaa
open Go.ChangeShapes Go.WideShapes Go.ChangeAt Go.RowKit
set_option linter.unusedVariables false

/-- a word moved up, alone and with what comes in from the word below -/
def su (x r : Int) : Int := IntKind.u64.wrap (x * 2 ^ r.toNat)
end Go.Proofs.Ythakafnecddliaa
end
section
namespace Go.Proofs.Ythakafnecddliaa
open Go.ChangeShapes Go.WideShapes Go.ChangeAt Go.RowKit
set_option linter.unusedVariables false

def sp (x y r : Int) : Int := bits .or .u64 (x / 2 ^ r.toNat) (IntKind.u64.wrap (y * 2 ^ (64 - r).toNat))
end Go.Proofs.Ythakafnecddliaa
end
section
namespace Go.Proofs.Ythakafnecddliaa
open Go.ChangeShapes Go.WideShapes Go.ChangeAt Go.RowKit
set_option linter.unusedVariables false

end Go.Proofs.Ythakafnecddliaa
end
section
namespace Go.Proofs.Ythakafnecddliaa
open Go.ChangeShapes Go.WideShapes Go.ChangeAt Go.RowKit Go.Shelf
set_option linter.unusedVariables false

theorem below_any (z : Int) (w : World) :
    Calls Try.prog 104 #[.agg #[.int .u64 (L0 z), .int .u64 (L1 z), .int .u64 (L2 z), .int .u64 (L3 z)]] w fun e w' => e = .returned (.bool (ngB z)) ∧ ∃ c, w' = w.alloc (.cells c 140) := below_gen _ _ _ _ (W4.of z) w
theorem below_is {z : Int} {s : Bool} (h : ngB z = s) (w : World) :
    Calls Try.prog 104 #[.agg #[.int .u64 (L0 z), .int .u64 (L1 z), .int .u64 (L2 z), .int .u64 (L3 z)]] w fun e w' => e = .returned (.bool s) ∧ ∃ c, w' = w.alloc (.cells c 140) := h ▸ below_any z w
theorem minus_any (a b : Int) (w : World) :
    Calls Try.prog 107 #[.agg #[.int .u64 (L0 a), .int .u64 (L1 a), .int .u64 (L2 a), .int .u64 (L3 a)], .agg #[.int .u64 (L0 b), .int .u64 (L1 b), .int .u64 (L2 b), .int .u64 (L3 b)]] w fun e w' => e = .returned (.agg #[.int .u64 (L0 (a - b)), .int .u64 (L1 (a - b)), .int .u64 (L2 (a - b)), .int .u64 (L3 (a - b))]) ∧ ∃ c1 c2 c3 c4 n, w' = ((((w.alloc (.cells c1 151)).alloc (.cells c2 151)).alloc (.cells c3 151)).alloc (.cells c4 151)).drewN n := by
  obtain ⟨h0, h1, h2, h3⟩ := L_sub (a := a) (b := b) ⟨rfl, rfl, rfl, rfl⟩ ⟨rfl, rfl, rfl, rfl⟩
  rw [← h0, ← h1, ← h2, ← h3]
  exact minus_gen _ _ _ _ _ _ _ _ (W4.of a) (W4.of b) w
end Go.Proofs.Ythakafnecddliaa
end
section
namespace Go.Proofs.Ythakafnecddliaa
open Go.ChangeShapes Go.WideShapes Go.ChangeAt Go.RowKit
set_option linter.unusedVariables false

theorem cmp_siz {r s : Int} (hr : Siz r) (hs : Siz s) : cmpW (Lf r) (Lf s) 4 = if r < s then -1 else if s < r then 1 else 0 := by
  obtain ⟨h0, h1⟩ := hr; obtain ⟨h2, h3⟩ := hs
  have e : ∀ z : Int, 0 ≤ z → z ≤ 115792089237316195423570985008687907853269984665640564039457584007913129639935 → z = L0 z + 18446744073709551616 * L1 z + 340282366920938463463374607431768211456 * L2 z + 6277101735386680763835789423207666416102355444464034512896 * L3 z := fun z _ _ => by unfold L0 L1 L2 L3; omega
  have er := e r h0 h1; have es := e s h2 h3
  obtain ⟨a0, b0, a1, b1, a2, b2, a3, b3⟩ := W4.of r
  obtain ⟨c0, d0, c1, d1, c2, d2, c3, d3⟩ := W4.of s
  unfold cmpW cmpW cmpW cmpW cmpW Lf
  simp only []
  generalize L0 r = x0 at *; generalize L1 r = x1 at *; generalize L2 r = x2 at *; generalize L3 r = x3 at *
  generalize L0 s = y0 at *; generalize L1 s = y1 at *; generalize L2 s = y2 at *; generalize L3 s = y3 at *
  repeat' split
  all_goals first | rfl | omega
end Go.Proofs.Ythakafnecddliaa
end
section
namespace Go.Proofs.Ythakafnecddliaa
open Go.ChangeShapes Go.WideShapes Go.ChangeAt Go.RowKit
set_option linter.unusedVariables false

end Go.Proofs.Ythakafnecddliaa
end
section
namespace Go.Proofs.Ythakafnecddliaa
open Go.ChangeShapes Go.WideShapes Go.ChangeAt Go.RowKit
set_option linter.unusedVariables false

end Go.Proofs.Ythakafnecddliaa
end
