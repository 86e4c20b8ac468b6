/- merged: The contracts of wide.below and wide.plus over words. No condition but that the arguments are words. The contract of wide.minus over words. No condition but that the arguments are words. The contracts of wide.below, plus, minus over numbers. No condition. The contracts of wide.sizeOf, signed, Sign. Conditions: numbers that can be. -/
import Derived.Test.YtjmojddnedngaaaDoorRefT
import Derived.Test.YtjmojddnedngaaaDoorFbA
import Derived.Shelf.Spec.BitsCarry
import Derived.Deep.RegionHeld3
import Derived.Handy
import Derived.WalkSpells
import Derived.Deep.QuietTactic
import Derived.BigQuiet
section
namespace Go.Proofs.YtjmojddnedngaaaDoor
open Go.ChangeShapes Go.WideShapes Go.ChangeAt Go.RowKit Go.Shelf
set_option linter.unusedVariables false

theorem below_gen (x0 x1 x2 x3 : Int) (h : W4 x0 x1 x2 x3) (w : World) :
    Calls Tryd.prog 28 #[.agg #[.int .u64 x0, .int .u64 x1, .int .u64 x2, .int .u64 x3]] w fun e w' => e = .returned (.bool (decide (9223372036854775808 ≤ x3))) ∧ ∃ c, w' = w.alloc (.cells c 24) := by
  obtain ⟨a0, b0, a1, b1, a2, b2, a3, b3⟩ := h
  go_enter Tryd.func28, Tryd.ntmps28
  go_wp2
  go_ret
  exact ⟨by simp, _, rfl⟩

theorem add64 (x y c : Int) (hx : 0 ≤ x) (hy : 0 ≤ y) (hc0 : 0 ≤ c) (hc : c ≤ 1) (w : World) : (callFunc 49 #[.int .u64 x, .int .u64 y, .int .u64 c]).run Tryd.prog w =
    .ok (.value (.tuple #[.int .u64 ((x + y + c) % 18446744073709551616), .int .u64 ((x + y + c) / 18446744073709551616)])) w := by
  rw [run_callFunc_extern Tryd.func49 (by kernel_rfl) (by kernel_rfl) (by kernel_rfl) (e := add64Entry) (by kernel_rfl), run_add64 x y c (by omega) (by omega) (by omega) (by omega)]
  simp only [Result.andThen]
theorem add64_0 (x y : Int) (hx : 0 ≤ x) (hy : 0 ≤ y) (w : World) : (callFunc 49 #[.int .u64 x, .int .u64 y, .int .u64 0]).run Tryd.prog w =
    .ok (.value (.tuple #[.int .u64 ((x + y) % 18446744073709551616), .int .u64 ((x + y) / 18446744073709551616)])) w := by
  simpa using add64 x y 0 hx hy (Int.le_refl 0) (by decide) w
/-- the carries of a sum -/
def k1 (x0 y0 : Int) : Int := (x0 + y0) / 18446744073709551616
def kn (x y c : Int) : Int := (x + y + c) / 18446744073709551616
theorem k1_lo (x0 y0 : Int) (h : 0 ≤ x0) (h' : 0 ≤ y0) : 0 ≤ k1 x0 y0 := by unfold k1; omega
theorem k1_hi (x0 y0 : Int) (h : x0 ≤ 18446744073709551615) (h' : y0 ≤ 18446744073709551615) : k1 x0 y0 ≤ 1 := by unfold k1; omega
theorem kn_lo (x y c : Int) (h : 0 ≤ x) (h' : 0 ≤ y) (h2 : 0 ≤ c) : 0 ≤ kn x y c := by unfold kn; omega
theorem kn_hi (x y c : Int) (h : x ≤ 18446744073709551615) (h' : y ≤ 18446744073709551615) (h2 : c ≤ 1) : kn x y c ≤ 1 := by unfold kn; omega
def s1 (x0 y0 : Int) : Int := (x0 + y0) % 18446744073709551616
def sn (x y c : Int) : Int := (x + y + c) % 18446744073709551616
theorem add64_1 (x y : Int) (hx : 0 ≤ x) (hy : 0 ≤ y) (w : World) : (callFunc 49 #[.int .u64 x, .int .u64 y, .int .u64 0]).run Tryd.prog w =
    .ok (.value (.tuple #[.int .u64 (s1 x y), .int .u64 (k1 x y)])) w := add64_0 x y hx hy w
theorem add64_n (x y c : Int) (hx : 0 ≤ x) (hy : 0 ≤ y) (hc0 : 0 ≤ c) (hc : c ≤ 1) (w : World) : (callFunc 49 #[.int .u64 x, .int .u64 y, .int .u64 c]).run Tryd.prog w =
    .ok (.value (.tuple #[.int .u64 (sn x y c), .int .u64 (kn x y c)])) w := add64 x y c hx hy hc0 hc w
set_option maxRecDepth 20000 in
set_option maxHeartbeats 1600000 in
theorem plus_gen (x0 x1 x2 x3 : Int) (y0 y1 y2 y3 : Int) (h : W4 x0 x1 x2 x3) (h' : W4 y0 y1 y2 y3) (w : World) :
    Calls Tryd.prog 27 #[.agg #[.int .u64 x0, .int .u64 x1, .int .u64 x2, .int .u64 x3], .agg #[.int .u64 y0, .int .u64 y1, .int .u64 y2, .int .u64 y3]] w fun e w' => e = .returned (.agg #[.int .u64 (s1 x0 y0), .int .u64 (sn x1 y1 (k1 x0 y0)), .int .u64 (sn x2 y2 (kn x1 y1 (k1 x0 y0))), .int .u64 (sn x3 y3 (kn x2 y2 (kn x1 y1 (k1 x0 y0))))]) ∧ ∃ c1 c2 c3 c4 n, w' = ((((w.alloc (.cells c1 58)).alloc (.cells c2 58)).alloc (.cells c3 58)).alloc (.cells c4 58)).drewN n := by
  obtain ⟨a0, b0, a1, b1, a2, b2, a3, b3⟩ := h
  obtain ⟨c0, d0, c1, d1, c2, d2, c3, d3⟩ := h'
  obtain ⟨k, hk⟩ : ∃ k, k = k1 x0 y0 := ⟨_, rfl⟩
  obtain ⟨l, hl⟩ : ∃ l, l = kn x1 y1 k := ⟨_, rfl⟩
  obtain ⟨m, hm⟩ : ∃ m, m = kn x2 y2 l := ⟨_, rfl⟩
  have e1 : 0 ≤ k := by rw [hk]; exact k1_lo _ _ a0 c0
  have e2 : k ≤ 1 := by rw [hk]; exact k1_hi _ _ b0 d0
  have e3 : 0 ≤ l := by rw [hl]; exact kn_lo _ _ _ a1 c1 e1
  have e4 : l ≤ 1 := by rw [hl]; exact kn_hi _ _ _ b1 d1 e2
  have e5 : 0 ≤ m := by rw [hm]; exact kn_lo _ _ _ a2 c2 e3
  have e6 : m ≤ 1 := by rw [hm]; exact kn_hi _ _ _ b2 d2 e4
  have A0 : ∀ w, (callFunc 49 #[.int .u64 x0, .int .u64 y0, .int .u64 0]).run Tryd.prog w = .ok (.value (.tuple #[.int .u64 (s1 x0 y0), .int .u64 k])) w := by rw [hk]; exact add64_1 _ _ a0 c0
  have A1 : ∀ w, (callFunc 49 #[.int .u64 x1, .int .u64 y1, .int .u64 k]).run Tryd.prog w = .ok (.value (.tuple #[.int .u64 (sn x1 y1 k), .int .u64 l])) w := by rw [hl]; exact add64_n _ _ _ a1 c1 e1 e2
  have A2 : ∀ w, (callFunc 49 #[.int .u64 x2, .int .u64 y2, .int .u64 l]).run Tryd.prog w = .ok (.value (.tuple #[.int .u64 (sn x2 y2 l), .int .u64 m])) w := by rw [hm]; exact add64_n _ _ _ a2 c2 e3 e4
  have A3 : ∀ w, (callFunc 49 #[.int .u64 x3, .int .u64 y3, .int .u64 m]).run Tryd.prog w = .ok (.value (.tuple #[.int .u64 (sn x3 y3 m), .int .u64 (kn x3 y3 m)])) w := add64_n _ _ _ a3 c3 e5 e6
  have G : ∀ o, o = kn x3 y3 m → True := fun _ _ => trivial
  rw [← hk, ← hl, ← hm]
  clear hk hl hm G
  generalize s1 x0 y0 = r0 at *
  generalize sn x1 y1 k = r1 at *
  generalize sn x2 y2 l = r2 at *
  generalize sn x3 y3 m = r3 at *
  generalize kn x3 y3 m = o at *
  go_enter Tryd.func27, Tryd.ntmps27
  go_wp2
  go_loopw [6, 8] (fun c i wr => ∃ n : Nat, (i = .int .i64 0 ∧ c = .int .u64 0 ∧ wr = ((((w.alloc (.cells #[.int .u64 x0, .int .u64 x1, .int .u64 x2, .int .u64 x3] 58)).alloc (.cells #[.int .u64 y0, .int .u64 y1, .int .u64 y2, .int .u64 y3] 58)).alloc (.cells #[.int .u64 0, .int .u64 0, .int .u64 0, .int .u64 0] 58)).alloc (.cells #[.int .u64 0, .int .u64 0, .int .u64 0, .int .u64 0] 58)).drewN n) ∨ (i = .int .i64 1 ∧ c = .int .u64 k ∧ wr = ((((w.alloc (.cells #[.int .u64 x0, .int .u64 x1, .int .u64 x2, .int .u64 x3] 58)).alloc (.cells #[.int .u64 y0, .int .u64 y1, .int .u64 y2, .int .u64 y3] 58)).alloc (.cells #[.int .u64 0, .int .u64 0, .int .u64 0, .int .u64 0] 58)).alloc (.cells #[.int .u64 r0, .int .u64 0, .int .u64 0, .int .u64 0] 58)).drewN n) ∨ (i = .int .i64 2 ∧ c = .int .u64 l ∧ wr = ((((w.alloc (.cells #[.int .u64 x0, .int .u64 x1, .int .u64 x2, .int .u64 x3] 58)).alloc (.cells #[.int .u64 y0, .int .u64 y1, .int .u64 y2, .int .u64 y3] 58)).alloc (.cells #[.int .u64 0, .int .u64 0, .int .u64 0, .int .u64 0] 58)).alloc (.cells #[.int .u64 r0, .int .u64 r1, .int .u64 0, .int .u64 0] 58)).drewN n) ∨ (i = .int .i64 3 ∧ c = .int .u64 m ∧ wr = ((((w.alloc (.cells #[.int .u64 x0, .int .u64 x1, .int .u64 x2, .int .u64 x3] 58)).alloc (.cells #[.int .u64 y0, .int .u64 y1, .int .u64 y2, .int .u64 y3] 58)).alloc (.cells #[.int .u64 0, .int .u64 0, .int .u64 0, .int .u64 0] 58)).alloc (.cells #[.int .u64 r0, .int .u64 r1, .int .u64 r2, .int .u64 0] 58)).drewN n) ∨ (i = .int .i64 4 ∧ c = .int .u64 o ∧ wr = ((((w.alloc (.cells #[.int .u64 x0, .int .u64 x1, .int .u64 x2, .int .u64 x3] 58)).alloc (.cells #[.int .u64 y0, .int .u64 y1, .int .u64 y2, .int .u64 y3] 58)).alloc (.cells #[.int .u64 0, .int .u64 0, .int .u64 0, .int .u64 0] 58)).alloc (.cells #[.int .u64 r0, .int .u64 r1, .int .u64 r2, .int .u64 r3] 58)).drewN n)) (fun _ i _ => 4 - (intOf i).toNat)
  case atStart => exact ⟨0, .inl ⟨rfl, rfl, by rw [World.drewN_zero]⟩⟩
  case round =>
    obtain ⟨n, ⟨rfl, rfl, rfl⟩ | ⟨rfl, rfl, rfl⟩ | ⟨rfl, rfl, rfl⟩ | ⟨rfl, rfl, rfl⟩ | ⟨rfl, rfl, rfl⟩⟩ := hrel
    · go_wp2
      go_region_with (simp only [A0])
      all_goals
        go_wp2
        go_roundw
        case rel => exact ⟨n + 1, by refine .inr (.inl ⟨rfl, rfl, ?_⟩); rw [setCell_drawn]; simp [go_sem]⟩
        case measure => simp [intOf]
    · go_wp2
      go_region_with (simp only [A1])
      all_goals
        go_wp2
        go_roundw
        case rel => exact ⟨n + 1, by refine .inr (.inr (.inl ⟨rfl, rfl, ?_⟩)); rw [setCell_drawn]; simp [go_sem]⟩
        case measure => simp [intOf]
    · go_wp2
      go_region_with (simp only [A2])
      all_goals
        go_wp2
        go_roundw
        case rel => exact ⟨n + 1, by refine .inr (.inr (.inr (.inl ⟨rfl, rfl, ?_⟩))); rw [setCell_drawn]; simp [go_sem]⟩
        case measure => simp [intOf]
    · go_wp2
      go_region_with (simp only [A3])
      all_goals
        go_wp2
        go_roundw
        case rel => exact ⟨n + 1, by refine .inr (.inr (.inr (.inr ⟨rfl, rfl, ?_⟩))); rw [setCell_drawn]; simp [go_sem]⟩
        case measure => simp [intOf]
    · go_wp2
      simp only [setCell_drawn]
      refine bodyPost_ret (by simp [results, Tryd.results27, go_sem]) rfl ⟨rfl, ?_⟩
      exact ⟨_, _, _, _, n, by simp [go_sem]; rfl⟩
end Go.Proofs.YtjmojddnedngaaaDoor
end
section
namespace Go.Proofs.YtjmojddnedngaaaDoor
open Go.ChangeShapes Go.WideShapes Go.ChangeAt Go.RowKit Go.Shelf
set_option linter.unusedVariables false

/-- the borrows of a difference -/
def b1w (x0 y0 : Int) : Int := -((x0 - y0) / 18446744073709551616)
def bnw (x y c : Int) : Int := -((x - y - c) / 18446744073709551616)
theorem b1_lo (x0 y0 : Int) (h : x0 ≤ 18446744073709551615) (h' : 0 ≤ y0) : 0 ≤ b1w x0 y0 := by unfold b1w; omega
theorem b1_hi (x0 y0 : Int) (h : 0 ≤ x0) (h' : y0 ≤ 18446744073709551615) : b1w x0 y0 ≤ 1 := by unfold b1w; omega
theorem bn_lo (x y c : Int) (h : x ≤ 18446744073709551615) (h' : 0 ≤ y) (h2 : 0 ≤ c) : 0 ≤ bnw x y c := by unfold bnw; omega
theorem bn_hi (x y c : Int) (h : 0 ≤ x) (h' : y ≤ 18446744073709551615) (h2 : c ≤ 1) : bnw x y c ≤ 1 := by unfold bnw; omega
def d1w (x0 y0 : Int) : Int := (x0 - y0) % 18446744073709551616
def dnw (x y c : Int) : Int := (x - y - c) % 18446744073709551616
theorem sub64 (x y b : Int) (hx : 0 ≤ x) (hx' : x ≤ 18446744073709551615) (hy : 0 ≤ y) (hy' : y ≤ 18446744073709551615) (hb0 : 0 ≤ b) (hb : b ≤ 1) (w : World) : (callFunc 50 #[.int .u64 x, .int .u64 y, .int .u64 b]).run Tryd.prog w =
    .ok (.value (.tuple #[.int .u64 ((x - y - b) % 18446744073709551616), .int .u64 (-((x - y - b) / 18446744073709551616))])) w := by
  obtain ⟨x, rfl⟩ := Int.eq_ofNat_of_zero_le hx
  obtain ⟨y, rfl⟩ := Int.eq_ofNat_of_zero_le hy
  obtain ⟨b, rfl⟩ := Int.eq_ofNat_of_zero_le hb0
  have e1 : (((x + 18446744073709551616 - y - b) % 18446744073709551616 : Nat) : Int) = ((x : Int) - y - b) % 18446744073709551616 := by omega
  have e2 : ((if x < y + b then 1 else 0 : Nat) : Int) = -(((x : Int) - y - b) / 18446744073709551616) := by split <;> omega
  rw [← e1, ← e2, run_callFunc_extern Tryd.func50 (by kernel_rfl) (by kernel_rfl) (by kernel_rfl) (e := sub64Entry) (by kernel_rfl), run_sub64 x y b (by omega)]
  rfl
theorem sub64_1 (x y : Int) (hx : 0 ≤ x) (hx' : x ≤ 18446744073709551615) (hy : 0 ≤ y) (hy' : y ≤ 18446744073709551615) (w : World) : (callFunc 50 #[.int .u64 x, .int .u64 y, .int .u64 0]).run Tryd.prog w =
    .ok (.value (.tuple #[.int .u64 (d1w x y), .int .u64 (b1w x y)])) w := by
  have h := sub64 x y 0 hx hx' hy hy' (Int.le_refl 0) (by decide) w
  rw [Int.sub_zero] at h
  exact h
theorem sub64_n (x y b : Int) (hx : 0 ≤ x) (hx' : x ≤ 18446744073709551615) (hy : 0 ≤ y) (hy' : y ≤ 18446744073709551615) (hb0 : 0 ≤ b) (hb : b ≤ 1) (w : World) : (callFunc 50 #[.int .u64 x, .int .u64 y, .int .u64 b]).run Tryd.prog w =
    .ok (.value (.tuple #[.int .u64 (dnw x y b), .int .u64 (bnw x y b)])) w := sub64 x y b hx hx' hy hy' hb0 hb w
set_option maxRecDepth 20000 in
set_option maxHeartbeats 1600000 in
theorem minus_gen (x0 x1 x2 x3 : Int) (y0 y1 y2 y3 : Int) (h : W4 x0 x1 x2 x3) (h' : W4 y0 y1 y2 y3) (w : World) :
    Calls Tryd.prog 29 #[.agg #[.int .u64 x0, .int .u64 x1, .int .u64 x2, .int .u64 x3], .agg #[.int .u64 y0, .int .u64 y1, .int .u64 y2, .int .u64 y3]] w fun e w' => e = .returned (.agg #[.int .u64 (d1w x0 y0), .int .u64 (dnw x1 y1 (b1w x0 y0)), .int .u64 (dnw x2 y2 (bnw x1 y1 (b1w x0 y0))), .int .u64 (dnw x3 y3 (bnw x2 y2 (bnw x1 y1 (b1w x0 y0))))]) ∧ ∃ c1 c2 c3 c4 n, w' = ((((w.alloc (.cells c1 58)).alloc (.cells c2 58)).alloc (.cells c3 58)).alloc (.cells c4 58)).drewN n := by
  obtain ⟨a0, b0, a1, b1, a2, b2, a3, b3⟩ := h
  obtain ⟨c0, d0, c1, d1, c2, d2, c3, d3⟩ := h'
  obtain ⟨k, hk⟩ : ∃ k, k = b1w x0 y0 := ⟨_, rfl⟩
  obtain ⟨l, hl⟩ : ∃ l, l = bnw x1 y1 k := ⟨_, rfl⟩
  obtain ⟨m, hm⟩ : ∃ m, m = bnw x2 y2 l := ⟨_, rfl⟩
  have e1 : 0 ≤ k := by rw [hk]; exact b1_lo _ _ b0 c0
  have e2 : k ≤ 1 := by rw [hk]; exact b1_hi _ _ a0 d0
  have e3 : 0 ≤ l := by rw [hl]; exact bn_lo _ _ _ b1 c1 e1
  have e4 : l ≤ 1 := by rw [hl]; exact bn_hi _ _ _ a1 d1 e2
  have e5 : 0 ≤ m := by rw [hm]; exact bn_lo _ _ _ b2 c2 e3
  have e6 : m ≤ 1 := by rw [hm]; exact bn_hi _ _ _ a2 d2 e4
  have A0 : ∀ w, (callFunc 50 #[.int .u64 x0, .int .u64 y0, .int .u64 0]).run Tryd.prog w = .ok (.value (.tuple #[.int .u64 (d1w x0 y0), .int .u64 k])) w := by rw [hk]; exact sub64_1 _ _ a0 b0 c0 d0
  have A1 : ∀ w, (callFunc 50 #[.int .u64 x1, .int .u64 y1, .int .u64 k]).run Tryd.prog w = .ok (.value (.tuple #[.int .u64 (dnw x1 y1 k), .int .u64 l])) w := by rw [hl]; exact sub64_n _ _ _ a1 b1 c1 d1 e1 e2
  have A2 : ∀ w, (callFunc 50 #[.int .u64 x2, .int .u64 y2, .int .u64 l]).run Tryd.prog w = .ok (.value (.tuple #[.int .u64 (dnw x2 y2 l), .int .u64 m])) w := by rw [hm]; exact sub64_n _ _ _ a2 b2 c2 d2 e3 e4
  have A3 : ∀ w, (callFunc 50 #[.int .u64 x3, .int .u64 y3, .int .u64 m]).run Tryd.prog w = .ok (.value (.tuple #[.int .u64 (dnw x3 y3 m), .int .u64 (bnw x3 y3 m)])) w := sub64_n _ _ _ a3 b3 c3 d3 e5 e6
  have G : ∀ o, o = bnw x3 y3 m → True := fun _ _ => trivial
  rw [← hk, ← hl, ← hm]
  clear hk hl hm G
  generalize d1w x0 y0 = r0 at *
  generalize dnw x1 y1 k = r1 at *
  generalize dnw x2 y2 l = r2 at *
  generalize dnw x3 y3 m = r3 at *
  generalize bnw x3 y3 m = o at *
  go_enter Tryd.func29, Tryd.ntmps29
  go_wp2
  go_loopw [6, 8] (fun c i wr => ∃ n : Nat, (i = .int .i64 0 ∧ c = .int .u64 0 ∧ wr = ((((w.alloc (.cells #[.int .u64 x0, .int .u64 x1, .int .u64 x2, .int .u64 x3] 58)).alloc (.cells #[.int .u64 y0, .int .u64 y1, .int .u64 y2, .int .u64 y3] 58)).alloc (.cells #[.int .u64 0, .int .u64 0, .int .u64 0, .int .u64 0] 58)).alloc (.cells #[.int .u64 0, .int .u64 0, .int .u64 0, .int .u64 0] 58)).drewN n) ∨ (i = .int .i64 1 ∧ c = .int .u64 k ∧ wr = ((((w.alloc (.cells #[.int .u64 x0, .int .u64 x1, .int .u64 x2, .int .u64 x3] 58)).alloc (.cells #[.int .u64 y0, .int .u64 y1, .int .u64 y2, .int .u64 y3] 58)).alloc (.cells #[.int .u64 0, .int .u64 0, .int .u64 0, .int .u64 0] 58)).alloc (.cells #[.int .u64 r0, .int .u64 0, .int .u64 0, .int .u64 0] 58)).drewN n) ∨ (i = .int .i64 2 ∧ c = .int .u64 l ∧ wr = ((((w.alloc (.cells #[.int .u64 x0, .int .u64 x1, .int .u64 x2, .int .u64 x3] 58)).alloc (.cells #[.int .u64 y0, .int .u64 y1, .int .u64 y2, .int .u64 y3] 58)).alloc (.cells #[.int .u64 0, .int .u64 0, .int .u64 0, .int .u64 0] 58)).alloc (.cells #[.int .u64 r0, .int .u64 r1, .int .u64 0, .int .u64 0] 58)).drewN n) ∨ (i = .int .i64 3 ∧ c = .int .u64 m ∧ wr = ((((w.alloc (.cells #[.int .u64 x0, .int .u64 x1, .int .u64 x2, .int .u64 x3] 58)).alloc (.cells #[.int .u64 y0, .int .u64 y1, .int .u64 y2, .int .u64 y3] 58)).alloc (.cells #[.int .u64 0, .int .u64 0, .int .u64 0, .int .u64 0] 58)).alloc (.cells #[.int .u64 r0, .int .u64 r1, .int .u64 r2, .int .u64 0] 58)).drewN n) ∨ (i = .int .i64 4 ∧ c = .int .u64 o ∧ wr = ((((w.alloc (.cells #[.int .u64 x0, .int .u64 x1, .int .u64 x2, .int .u64 x3] 58)).alloc (.cells #[.int .u64 y0, .int .u64 y1, .int .u64 y2, .int .u64 y3] 58)).alloc (.cells #[.int .u64 0, .int .u64 0, .int .u64 0, .int .u64 0] 58)).alloc (.cells #[.int .u64 r0, .int .u64 r1, .int .u64 r2, .int .u64 r3] 58)).drewN n)) (fun _ i _ => 4 - (intOf i).toNat)
  case atStart => exact ⟨0, .inl ⟨rfl, rfl, by rw [World.drewN_zero]⟩⟩
  case round =>
    obtain ⟨n, ⟨rfl, rfl, rfl⟩ | ⟨rfl, rfl, rfl⟩ | ⟨rfl, rfl, rfl⟩ | ⟨rfl, rfl, rfl⟩ | ⟨rfl, rfl, rfl⟩⟩ := hrel
    · go_wp2
      go_region_with (simp only [A0])
      all_goals
        go_wp2
        go_roundw
        case rel => exact ⟨n + 1, by refine .inr (.inl ⟨rfl, rfl, ?_⟩); rw [setCell_drawn]; simp [go_sem]⟩
        case measure => simp [intOf]
    · go_wp2
      go_region_with (simp only [A1])
      all_goals
        go_wp2
        go_roundw
        case rel => exact ⟨n + 1, by refine .inr (.inr (.inl ⟨rfl, rfl, ?_⟩)); rw [setCell_drawn]; simp [go_sem]⟩
        case measure => simp [intOf]
    · go_wp2
      go_region_with (simp only [A2])
      all_goals
        go_wp2
        go_roundw
        case rel => exact ⟨n + 1, by refine .inr (.inr (.inr (.inl ⟨rfl, rfl, ?_⟩))); rw [setCell_drawn]; simp [go_sem]⟩
        case measure => simp [intOf]
    · go_wp2
      go_region_with (simp only [A3])
      all_goals
        go_wp2
        go_roundw
        case rel => exact ⟨n + 1, by refine .inr (.inr (.inr (.inr ⟨rfl, rfl, ?_⟩))); rw [setCell_drawn]; simp [go_sem]⟩
        case measure => simp [intOf]
    · go_wp2
      simp only [setCell_drawn]
      refine bodyPost_ret (by simp [results, Tryd.results29, go_sem]) rfl ⟨rfl, ?_⟩
      exact ⟨_, _, _, _, n, by simp [go_sem]; rfl⟩
end Go.Proofs.YtjmojddnedngaaaDoor
end
section
namespace Go.Proofs.YtjmojddnedngaaaDoor
open Go.ChangeShapes Go.WideShapes Go.ChangeAt Go.RowKit Go.Shelf
set_option linter.unusedVariables false

theorem below_any (z : Int) (w : World) :
    Calls Tryd.prog 28 #[.agg #[.int .u64 (L0 z), .int .u64 (L1 z), .int .u64 (L2 z), .int .u64 (L3 z)]] w fun e w' => e = .returned (.bool (ngB z)) ∧ ∃ c, w' = w.alloc (.cells c 24) := below_gen _ _ _ _ (W4.of z) w
theorem below_is {z : Int} {s : Bool} (h : ngB z = s) (w : World) :
    Calls Tryd.prog 28 #[.agg #[.int .u64 (L0 z), .int .u64 (L1 z), .int .u64 (L2 z), .int .u64 (L3 z)]] w fun e w' => e = .returned (.bool s) ∧ ∃ c, w' = w.alloc (.cells c 24) := h ▸ below_any z w
theorem plus_any (a b : Int) (w : World) :
    Calls Tryd.prog 27 #[.agg #[.int .u64 (L0 a), .int .u64 (L1 a), .int .u64 (L2 a), .int .u64 (L3 a)], .agg #[.int .u64 (L0 b), .int .u64 (L1 b), .int .u64 (L2 b), .int .u64 (L3 b)]] w fun e w' => e = .returned (.agg #[.int .u64 (L0 (a + b)), .int .u64 (L1 (a + b)), .int .u64 (L2 (a + b)), .int .u64 (L3 (a + b))]) ∧ ∃ c1 c2 c3 c4 n, w' = ((((w.alloc (.cells c1 58)).alloc (.cells c2 58)).alloc (.cells c3 58)).alloc (.cells c4 58)).drewN n := by
  obtain ⟨h0, h1, h2, h3⟩ := L_add (a := a) (b := b) ⟨rfl, rfl, rfl, rfl⟩ ⟨rfl, rfl, rfl, rfl⟩
  rw [← h0, ← h1, ← h2, ← h3]
  exact plus_gen _ _ _ _ _ _ _ _ (W4.of a) (W4.of b) w
theorem minus_any (a b : Int) (w : World) :
    Calls Tryd.prog 29 #[.agg #[.int .u64 (L0 a), .int .u64 (L1 a), .int .u64 (L2 a), .int .u64 (L3 a)], .agg #[.int .u64 (L0 b), .int .u64 (L1 b), .int .u64 (L2 b), .int .u64 (L3 b)]] w fun e w' => e = .returned (.agg #[.int .u64 (L0 (a - b)), .int .u64 (L1 (a - b)), .int .u64 (L2 (a - b)), .int .u64 (L3 (a - b))]) ∧ ∃ c1 c2 c3 c4 n, w' = ((((w.alloc (.cells c1 58)).alloc (.cells c2 58)).alloc (.cells c3 58)).alloc (.cells c4 58)).drewN n := by
  obtain ⟨h0, h1, h2, h3⟩ := L_sub (a := a) (b := b) ⟨rfl, rfl, rfl, rfl⟩ ⟨rfl, rfl, rfl, rfl⟩
  rw [← h0, ← h1, ← h2, ← h3]
  exact minus_gen _ _ _ _ _ _ _ _ (W4.of a) (W4.of b) w
end Go.Proofs.YtjmojddnedngaaaDoor
end
section
namespace Go.Proofs.YtjmojddnedngaaaDoor
open Go.ChangeShapes Go.WideShapes Go.ChangeAt Go.RowKit
set_option linter.unusedVariables false

/-- a wide.Int without its sign -/
theorem sizeOf_any (z : Int) (h : Fit z) (w : World) :
    Calls Tryd.prog 47 #[.agg #[.int .u64 (L0 z), .int .u64 (L1 z), .int .u64 (L2 z), .int .u64 (L3 z)]] w fun e w' => e = .returned (.agg #[.int .u64 (L0 (z.natAbs : Int)), .int .u64 (L1 (z.natAbs : Int)), .int .u64 (L2 (z.natAbs : Int)), .int .u64 (L3 (z.natAbs : Int))]) ∧ Below w.heap.size w w' := by
  by_cases hz : z < 0
  · have hn : ngB z = true := by rw [ngB_fit h]; simpa using hz
    have e : (z.natAbs : Int) = 0 - z := by omega
    rw [e]
    have B1 := Lib.hid (fun w => below_is hn w)
    have M1 := Lib.hid (fun w => minus_any 0 z w)
    clear hn e hz
    generalize (0 : Int) - z = y at *
    generalize L0 z = x0 at *; generalize L1 z = x1 at *; generalize L2 z = x2 at *; generalize L3 z = x3 at *
    generalize L0 y = y0 at *; generalize L1 y = y1 at *; generalize L2 y = y2 at *; generalize L3 y = y3 at *
    go_enter Tryd.func47, Tryd.ntmps47
    go_wp2_with (first
      | (go_at_call 28; refine (B1.out _).mono ?_; rintro e w1 ⟨rfl, c, rfl⟩)
      | (go_at_call 29; refine (M1.out _).mono ?_; rintro e w1 ⟨rfl, c1, c2, c3, c4, n, rfl⟩))
    try simp only [setCell_drawn]
    refine bodyPost_ret (by simp [results, Tryd.results47, go_sem]) rfl ⟨rfl, ?_⟩
    repeat' (first | (with_reducible exact Below.refl _ _) | (with_reducible assumption) | (with_reducible refine below_drewN ?_ _) | (with_reducible refine Below.drew ?_) | (with_reducible refine Below.alloc ?_ ?_ _) | (with_reducible refine Below.setCell ?_ ?_ _) | (with_reducible refine then_ ?_ (by with_reducible assumption) ?_) | (with_reducible exact Nat.le_refl _) | (with_reducible exact Nat.le_succ _) | (with_reducible exact Nat.le_succ_of_le (by with_reducible assumption)) | omega | (simp; done) | (simp; omega) | (exact Nat.le_succ _) | (exact Nat.le_succ_of_le (by with_reducible assumption)))
  · have hn : ngB z = false := by rw [ngB_fit h]; simpa using hz
    have e : (z.natAbs : Int) = z := by omega
    rw [e]
    have B1 := Lib.hid (fun w => below_is hn w)
    clear hn e hz
    generalize L0 z = x0 at *; generalize L1 z = x1 at *; generalize L2 z = x2 at *; generalize L3 z = x3 at *
    go_enter Tryd.func47, Tryd.ntmps47
    go_wp2_with (first
      | (go_at_call 28; refine (B1.out _).mono ?_; rintro e w1 ⟨rfl, c, rfl⟩))
    try simp only [setCell_drawn]
    refine bodyPost_ret (by simp [results, Tryd.results47, go_sem]) rfl ⟨rfl, ?_⟩
    repeat' (first | (with_reducible exact Below.refl _ _) | (with_reducible assumption) | (with_reducible refine below_drewN ?_ _) | (with_reducible refine Below.drew ?_) | (with_reducible refine Below.alloc ?_ ?_ _) | (with_reducible refine Below.setCell ?_ ?_ _) | (with_reducible refine then_ ?_ (by with_reducible assumption) ?_) | (with_reducible exact Nat.le_refl _) | (with_reducible exact Nat.le_succ _) | (with_reducible exact Nat.le_succ_of_le (by with_reducible assumption)) | omega | (simp; done) | (simp; omega) | (exact Nat.le_succ _) | (exact Nat.le_succ_of_le (by with_reducible assumption)))
theorem siz0 : Siz 0 := ⟨by decide, by decide⟩
theorem fit0 : Fit 0 := ⟨by decide, by decide⟩
set_option maxRecDepth 20000 in
theorem signed_false_false (n : Int) (hs : Siz n) (hn : ¬ n = 0) (z : Int) (hz : z = n) (ht : ngB z = false) (w : World) :
    Calls Tryd.prog 48 #[.agg #[.int .u64 (L0 n), .int .u64 (L1 n), .int .u64 (L2 n), .int .u64 (L3 n)], .bool false] w fun e w' => e = .returned (.tuple #[.agg #[.int .u64 (L0 z), .int .u64 (L1 z), .int .u64 (L2 z), .int .u64 (L3 z)], .int .i64 0]) ∧ Below w.heap.size w w' := by
  have EQ : ∀ w, (Op.equalIn 10000 58 (.agg #[.int .u64 (L0 n), .int .u64 (L1 n), .int .u64 (L2 n), .int .u64 (L3 n)]) (.agg #[.int .u64 0, .int .u64 0, .int .u64 0, .int .u64 0])).run Tryd.prog w = .ok false w := fun w => by
    have := eq_siz hs siz0 w
    rw [decide_eq_false hn] at this
    exact this
  have B1 := Lib.hid (fun w => below_is ht w)
  clear ht hn hs
  subst hz
  generalize L0 z = x0 at *; generalize L1 z = x1 at *; generalize L2 z = x2 at *; generalize L3 z = x3 at *
  go_enter Tryd.func48, Tryd.ntmps48
  go_wp2_with (first
    | (go_at_call 28; refine (B1.out _).mono ?_; rintro e w1 ⟨rfl, c, rfl⟩))
  try simp only [setCell_drawn]
  refine bodyPost_ret (by simp [results, Tryd.results48, go_sem]) rfl ⟨rfl, ?_⟩
  repeat' (first | (with_reducible exact Below.refl _ _) | (with_reducible assumption) | (with_reducible refine below_drewN ?_ _) | (with_reducible refine Below.drew ?_) | (with_reducible refine Below.alloc ?_ ?_ _) | (with_reducible refine Below.setCell ?_ ?_ _) | (with_reducible refine then_ ?_ (by with_reducible assumption) ?_) | (with_reducible exact Nat.le_refl _) | (with_reducible exact Nat.le_succ _) | (with_reducible exact Nat.le_succ_of_le (by with_reducible assumption)) | omega | (simp; done) | (simp; omega) | (exact Nat.le_succ _) | (exact Nat.le_succ_of_le (by with_reducible assumption)))
set_option maxRecDepth 20000 in
theorem signed_false_true (n : Int) (hs : Siz n) (hn : ¬ n = 0) (z : Int) (hz : z = n) (ht : ngB z = true) (w : World) :
    Calls Tryd.prog 48 #[.agg #[.int .u64 (L0 n), .int .u64 (L1 n), .int .u64 (L2 n), .int .u64 (L3 n)], .bool false] w fun e w' => e = .returned (.tuple #[.agg #[.int .u64 0, .int .u64 0, .int .u64 0, .int .u64 0], .int .i64 3]) ∧ Below w.heap.size w w' := by
  have EQ : ∀ w, (Op.equalIn 10000 58 (.agg #[.int .u64 (L0 n), .int .u64 (L1 n), .int .u64 (L2 n), .int .u64 (L3 n)]) (.agg #[.int .u64 0, .int .u64 0, .int .u64 0, .int .u64 0])).run Tryd.prog w = .ok false w := fun w => by
    have := eq_siz hs siz0 w
    rw [decide_eq_false hn] at this
    exact this
  have B1 := Lib.hid (fun w => below_is ht w)
  clear ht hn hs
  subst hz
  generalize L0 z = x0 at *; generalize L1 z = x1 at *; generalize L2 z = x2 at *; generalize L3 z = x3 at *
  go_enter Tryd.func48, Tryd.ntmps48
  go_wp2_with (first
    | (go_at_call 28; refine (B1.out _).mono ?_; rintro e w1 ⟨rfl, c, rfl⟩))
  try simp only [setCell_drawn]
  refine bodyPost_ret (by simp [results, Tryd.results48, go_sem]) rfl ⟨rfl, ?_⟩
  repeat' (first | (with_reducible exact Below.refl _ _) | (with_reducible assumption) | (with_reducible refine below_drewN ?_ _) | (with_reducible refine Below.drew ?_) | (with_reducible refine Below.alloc ?_ ?_ _) | (with_reducible refine Below.setCell ?_ ?_ _) | (with_reducible refine then_ ?_ (by with_reducible assumption) ?_) | (with_reducible exact Nat.le_refl _) | (with_reducible exact Nat.le_succ _) | (with_reducible exact Nat.le_succ_of_le (by with_reducible assumption)) | omega | (simp; done) | (simp; omega) | (exact Nat.le_succ _) | (exact Nat.le_succ_of_le (by with_reducible assumption)))
set_option maxRecDepth 20000 in
theorem signed_true_false (n : Int) (hs : Siz n) (hn : ¬ n = 0) (z : Int) (hz : z = 0 - n) (ht : ngB z = false) (w : World) :
    Calls Tryd.prog 48 #[.agg #[.int .u64 (L0 n), .int .u64 (L1 n), .int .u64 (L2 n), .int .u64 (L3 n)], .bool true] w fun e w' => e = .returned (.tuple #[.agg #[.int .u64 0, .int .u64 0, .int .u64 0, .int .u64 0], .int .i64 3]) ∧ Below w.heap.size w w' := by
  have EQ : ∀ w, (Op.equalIn 10000 58 (.agg #[.int .u64 (L0 n), .int .u64 (L1 n), .int .u64 (L2 n), .int .u64 (L3 n)]) (.agg #[.int .u64 0, .int .u64 0, .int .u64 0, .int .u64 0])).run Tryd.prog w = .ok false w := fun w => by
    have := eq_siz hs siz0 w
    rw [decide_eq_false hn] at this
    exact this
  have B1 := Lib.hid (fun w => below_is ht w)
  have M1 := Lib.hid (fun w => minus_any 0 n w)
  rw [← hz] at M1
  clear ht hn hs
  clear hz
  generalize L0 n = x0 at *; generalize L1 n = x1 at *; generalize L2 n = x2 at *; generalize L3 n = x3 at *
  generalize L0 z = z0 at *; generalize L1 z = z1 at *; generalize L2 z = z2 at *; generalize L3 z = z3 at *
  go_enter Tryd.func48, Tryd.ntmps48
  go_wp2_with (first
    | (go_at_call 28; refine (B1.out _).mono ?_; rintro e w1 ⟨rfl, c, rfl⟩)
    | (go_at_call 29; refine (M1.out _).mono ?_; rintro e w1 ⟨rfl, c1, c2, c3, c4, m, rfl⟩))
  try simp only [setCell_drawn]
  refine bodyPost_ret (by simp [results, Tryd.results48, go_sem]) rfl ⟨rfl, ?_⟩
  repeat' (first | (with_reducible exact Below.refl _ _) | (with_reducible assumption) | (with_reducible refine below_drewN ?_ _) | (with_reducible refine Below.drew ?_) | (with_reducible refine Below.alloc ?_ ?_ _) | (with_reducible refine Below.setCell ?_ ?_ _) | (with_reducible refine then_ ?_ (by with_reducible assumption) ?_) | (with_reducible exact Nat.le_refl _) | (with_reducible exact Nat.le_succ _) | (with_reducible exact Nat.le_succ_of_le (by with_reducible assumption)) | omega | (simp; done) | (simp; omega) | (exact Nat.le_succ _) | (exact Nat.le_succ_of_le (by with_reducible assumption)))
set_option maxRecDepth 20000 in
theorem signed_true_true (n : Int) (hs : Siz n) (hn : ¬ n = 0) (z : Int) (hz : z = 0 - n) (ht : ngB z = true) (w : World) :
    Calls Tryd.prog 48 #[.agg #[.int .u64 (L0 n), .int .u64 (L1 n), .int .u64 (L2 n), .int .u64 (L3 n)], .bool true] w fun e w' => e = .returned (.tuple #[.agg #[.int .u64 (L0 z), .int .u64 (L1 z), .int .u64 (L2 z), .int .u64 (L3 z)], .int .i64 0]) ∧ Below w.heap.size w w' := by
  have EQ : ∀ w, (Op.equalIn 10000 58 (.agg #[.int .u64 (L0 n), .int .u64 (L1 n), .int .u64 (L2 n), .int .u64 (L3 n)]) (.agg #[.int .u64 0, .int .u64 0, .int .u64 0, .int .u64 0])).run Tryd.prog w = .ok false w := fun w => by
    have := eq_siz hs siz0 w
    rw [decide_eq_false hn] at this
    exact this
  have B1 := Lib.hid (fun w => below_is ht w)
  have M1 := Lib.hid (fun w => minus_any 0 n w)
  rw [← hz] at M1
  clear ht hn hs
  clear hz
  generalize L0 n = x0 at *; generalize L1 n = x1 at *; generalize L2 n = x2 at *; generalize L3 n = x3 at *
  generalize L0 z = z0 at *; generalize L1 z = z1 at *; generalize L2 z = z2 at *; generalize L3 z = z3 at *
  go_enter Tryd.func48, Tryd.ntmps48
  go_wp2_with (first
    | (go_at_call 28; refine (B1.out _).mono ?_; rintro e w1 ⟨rfl, c, rfl⟩)
    | (go_at_call 29; refine (M1.out _).mono ?_; rintro e w1 ⟨rfl, c1, c2, c3, c4, m, rfl⟩))
  try simp only [setCell_drawn]
  refine bodyPost_ret (by simp [results, Tryd.results48, go_sem]) rfl ⟨rfl, ?_⟩
  repeat' (first | (with_reducible exact Below.refl _ _) | (with_reducible assumption) | (with_reducible refine below_drewN ?_ _) | (with_reducible refine Below.drew ?_) | (with_reducible refine Below.alloc ?_ ?_ _) | (with_reducible refine Below.setCell ?_ ?_ _) | (with_reducible refine then_ ?_ (by with_reducible assumption) ?_) | (with_reducible exact Nat.le_refl _) | (with_reducible exact Nat.le_succ _) | (with_reducible exact Nat.le_succ_of_le (by with_reducible assumption)) | omega | (simp; done) | (simp; omega) | (exact Nat.le_succ _) | (exact Nat.le_succ_of_le (by with_reducible assumption)))
set_option maxRecDepth 20000 in
theorem signed_zero (s : Bool) (w : World) :
    Calls Tryd.prog 48 #[.agg #[.int .u64 0, .int .u64 0, .int .u64 0, .int .u64 0], .bool s] w fun e w' => e = .returned (.tuple #[.agg #[.int .u64 0, .int .u64 0, .int .u64 0, .int .u64 0], .int .i64 0]) ∧ Below w.heap.size w w' := by
  have EQ : ∀ w, (Op.equalIn 10000 58 (.agg #[.int .u64 0, .int .u64 0, .int .u64 0, .int .u64 0]) (.agg #[.int .u64 0, .int .u64 0, .int .u64 0, .int .u64 0])).run Tryd.prog w = .ok true w := fun w => by
    have := eq_siz siz0 siz0 w
    rw [decide_eq_true rfl] at this
    exact this
  have M1 : ∀ w : World, Calls Tryd.prog 29 #[.agg #[.int .u64 0, .int .u64 0, .int .u64 0, .int .u64 0], .agg #[.int .u64 0, .int .u64 0, .int .u64 0, .int .u64 0]] w fun e w' => e = .returned (.agg #[.int .u64 0, .int .u64 0, .int .u64 0, .int .u64 0]) ∧ ∃ c1 c2 c3 c4 n, w' = ((((w.alloc (.cells c1 58)).alloc (.cells c2 58)).alloc (.cells c3 58)).alloc (.cells c4 58)).drewN n := fun w => minus_any 0 0 w
  have H1 := Lib.hid M1
  clear M1
  cases s
  · go_enter Tryd.func48, Tryd.ntmps48
    go_wp2
    try simp only [setCell_drawn]
    refine bodyPost_ret (by simp [results, Tryd.results48, go_sem]) rfl ⟨rfl, ?_⟩
    repeat' (first | (with_reducible exact Below.refl _ _) | (with_reducible assumption) | (with_reducible refine below_drewN ?_ _) | (with_reducible refine Below.drew ?_) | (with_reducible refine Below.alloc ?_ ?_ _) | (with_reducible refine Below.setCell ?_ ?_ _) | (with_reducible refine then_ ?_ (by with_reducible assumption) ?_) | (with_reducible exact Nat.le_refl _) | (with_reducible exact Nat.le_succ _) | (with_reducible exact Nat.le_succ_of_le (by with_reducible assumption)) | omega | (simp; done) | (simp; omega) | (exact Nat.le_succ _) | (exact Nat.le_succ_of_le (by with_reducible assumption)))
  · go_enter Tryd.func48, Tryd.ntmps48
    go_wp2_with (first
      | (go_at_call 29; refine (H1.out _).mono ?_; rintro e w1 ⟨rfl, c1, c2, c3, c4, m, rfl⟩))
    try simp only [setCell_drawn]
    refine bodyPost_ret (by simp [results, Tryd.results48, go_sem]) rfl ⟨rfl, ?_⟩
    repeat' (first | (with_reducible exact Below.refl _ _) | (with_reducible assumption) | (with_reducible refine below_drewN ?_ _) | (with_reducible refine Below.drew ?_) | (with_reducible refine Below.alloc ?_ ?_ _) | (with_reducible refine Below.setCell ?_ ?_ _) | (with_reducible refine then_ ?_ (by with_reducible assumption) ?_) | (with_reducible exact Nat.le_refl _) | (with_reducible exact Nat.le_succ _) | (with_reducible exact Nat.le_succ_of_le (by with_reducible assumption)) | omega | (simp; done) | (simp; omega) | (exact Nat.le_succ _) | (exact Nat.le_succ_of_le (by with_reducible assumption)))
/-- a size with a sign: the number, where it is one -/
theorem signed_fit (n z : Int) (s : Bool) (hs : Siz n) (hz : z = if s then 0 - n else n) (hf : Fit z) (w : World) :
    Calls Tryd.prog 48 #[.agg #[.int .u64 (L0 n), .int .u64 (L1 n), .int .u64 (L2 n), .int .u64 (L3 n)], .bool s] w fun e w' => e = .returned (.tuple #[.agg #[.int .u64 (L0 z), .int .u64 (L1 z), .int .u64 (L2 z), .int .u64 (L3 z)], .int .i64 0]) ∧ Below w.heap.size w w' := by
  by_cases hn : n = 0
  · have : z = 0 := by rw [hz, hn]; cases s <;> rfl
    subst hn
    rw [this]
    exact signed_zero s w
  · have hn0 := hs.lo
    cases s
    · rw [if_neg (by decide)] at hz
      exact signed_false_false n hs hn z hz (by rw [ngB_fit hf, decide_eq_false_iff_not]; omega) w
    · rw [if_pos rfl] at hz
      exact signed_true_true n hs hn z hz (by rw [ngB_fit hf, decide_eq_true_eq]; omega) w
theorem signed_large (n z : Int) (s : Bool) (hs : Siz n) (hz : z = if s then 0 - n else n) (hf : ¬ Fit z) (w : World) :
    Calls Tryd.prog 48 #[.agg #[.int .u64 (L0 n), .int .u64 (L1 n), .int .u64 (L2 n), .int .u64 (L3 n)], .bool s] w fun e w' => e = .returned (.tuple #[.agg #[.int .u64 0, .int .u64 0, .int .u64 0, .int .u64 0], .int .i64 3]) ∧ Below w.heap.size w w' := by
  have hn : ¬ n = 0 := fun h => hf (by rw [hz, h]; cases s <;> exact fit0)
  obtain ⟨l, u⟩ := hs
  cases s
  · rw [if_neg (by decide)] at hz
    refine signed_false_true n ⟨l, u⟩ hn z hz ?_ w
    rw [ngB_iff]
    by_cases h : z ≤ 57896044618658097711785492504343953926634992332820282019728792003956564819967
    · exact absurd ⟨by omega, h⟩ hf
    · omega
  · rw [if_pos rfl] at hz
    refine signed_true_false n ⟨l, u⟩ hn z hz ?_ w
    rw [← Bool.not_eq_true, ngB_iff]
    by_cases h : -57896044618658097711785492504343953926634992332820282019728792003956564819968 ≤ z
    · exact absurd ⟨h, by omega⟩ hf
    · omega
end Go.Proofs.YtjmojddnedngaaaDoor
end
