
/- The contracts of wide.below and wide.plus over words. No condition but that the arguments are words. -/
import Derived.Test.YtigcbgehnlilaaaDoorBytes
import Derived.Test.YtigcbgehnlilaaaDoorNum
import Derived.Test.YtigcbgehnlilaaaDoorEq

import Derived.Shelf.Spec.BitsCarry
import Derived.Deep.RegionHeld3
import Derived.Handy
import Derived.WalkSpells
import Derived.Deep.QuietTactic
import Derived.BigQuiet
namespace Go.Proofs.YtigcbgehnlilaaaDoor
open Go.ChangeShapes Go.WideShapes Go.ChangeAt Go.RowKit Go.Shelf
set_option linter.unusedVariables false

theorem below_gen (x0 x1 x2 x3 : Int) (h : W4 x0 x1 x2 x3) (w : World) :
    Calls Tryd.prog 52 #[.agg #[.int .u64 x0, .int .u64 x1, .int .u64 x2, .int .u64 x3]] w fun e w' => e = .returned (.bool (decide (9223372036854775808 ≤ x3))) ∧ ∃ c, w' = w.alloc (.cells c 24) := by
  obtain ⟨a0, b0, a1, b1, a2, b2, a3, b3⟩ := h
  go_enter Tryd.func52, Tryd.ntmps52
  go_wp2
  go_ret
  exact ⟨by simp, _, rfl⟩

theorem add64 (x y c : Int) (hx : 0 ≤ x) (hy : 0 ≤ y) (hc0 : 0 ≤ c) (hc : c ≤ 1) (w : World) : (callFunc 68 #[.int .u64 x, .int .u64 y, .int .u64 c]).run Tryd.prog w =
    .ok (.value (.tuple #[.int .u64 ((x + y + c) % 18446744073709551616), .int .u64 ((x + y + c) / 18446744073709551616)])) w := by
  rw [run_callFunc_extern Tryd.func68 (by kernel_rfl) (by kernel_rfl) (by kernel_rfl) (e := add64Entry) (by kernel_rfl), run_add64 x y c (by omega) (by omega) (by omega) (by omega)]
  simp only [Result.andThen]
theorem add64_0 (x y : Int) (hx : 0 ≤ x) (hy : 0 ≤ y) (w : World) : (callFunc 68 #[.int .u64 x, .int .u64 y, .int .u64 0]).run Tryd.prog w =
    .ok (.value (.tuple #[.int .u64 ((x + y) % 18446744073709551616), .int .u64 ((x + y) / 18446744073709551616)])) w := by
  simpa using add64 x y 0 hx hy (Int.le_refl 0) (by decide) w
/-- the carries of a sum -/
def k1 (x0 y0 : Int) : Int := (x0 + y0) / 18446744073709551616
def kn (x y c : Int) : Int := (x + y + c) / 18446744073709551616
theorem k1_lo (x0 y0 : Int) (h : 0 ≤ x0) (h' : 0 ≤ y0) : 0 ≤ k1 x0 y0 := by unfold k1; omega
theorem k1_hi (x0 y0 : Int) (h : x0 ≤ 18446744073709551615) (h' : y0 ≤ 18446744073709551615) : k1 x0 y0 ≤ 1 := by unfold k1; omega
theorem kn_lo (x y c : Int) (h : 0 ≤ x) (h' : 0 ≤ y) (h2 : 0 ≤ c) : 0 ≤ kn x y c := by unfold kn; omega
theorem kn_hi (x y c : Int) (h : x ≤ 18446744073709551615) (h' : y ≤ 18446744073709551615) (h2 : c ≤ 1) : kn x y c ≤ 1 := by unfold kn; omega
def s1 (x0 y0 : Int) : Int := (x0 + y0) % 18446744073709551616
def sn (x y c : Int) : Int := (x + y + c) % 18446744073709551616
theorem add64_1 (x y : Int) (hx : 0 ≤ x) (hy : 0 ≤ y) (w : World) : (callFunc 68 #[.int .u64 x, .int .u64 y, .int .u64 0]).run Tryd.prog w =
    .ok (.value (.tuple #[.int .u64 (s1 x y), .int .u64 (k1 x y)])) w := add64_0 x y hx hy w
theorem add64_n (x y c : Int) (hx : 0 ≤ x) (hy : 0 ≤ y) (hc0 : 0 ≤ c) (hc : c ≤ 1) (w : World) : (callFunc 68 #[.int .u64 x, .int .u64 y, .int .u64 c]).run Tryd.prog w =
    .ok (.value (.tuple #[.int .u64 (sn x y c), .int .u64 (kn x y c)])) w := add64 x y c hx hy hc0 hc w
set_option maxRecDepth 20000 in
set_option maxHeartbeats 1600000 in
theorem plus_gen (x0 x1 x2 x3 : Int) (y0 y1 y2 y3 : Int) (h : W4 x0 x1 x2 x3) (h' : W4 y0 y1 y2 y3) (w : World) :
    Calls Tryd.prog 51 #[.agg #[.int .u64 x0, .int .u64 x1, .int .u64 x2, .int .u64 x3], .agg #[.int .u64 y0, .int .u64 y1, .int .u64 y2, .int .u64 y3]] w fun e w' => e = .returned (.agg #[.int .u64 (s1 x0 y0), .int .u64 (sn x1 y1 (k1 x0 y0)), .int .u64 (sn x2 y2 (kn x1 y1 (k1 x0 y0))), .int .u64 (sn x3 y3 (kn x2 y2 (kn x1 y1 (k1 x0 y0))))]) ∧ ∃ c1 c2 c3 c4 n, w' = ((((w.alloc (.cells c1 77)).alloc (.cells c2 77)).alloc (.cells c3 77)).alloc (.cells c4 77)).drewN n := by
  obtain ⟨a0, b0, a1, b1, a2, b2, a3, b3⟩ := h
  obtain ⟨c0, d0, c1, d1, c2, d2, c3, d3⟩ := h'
  obtain ⟨k, hk⟩ : ∃ k, k = k1 x0 y0 := ⟨_, rfl⟩
  obtain ⟨l, hl⟩ : ∃ l, l = kn x1 y1 k := ⟨_, rfl⟩
  obtain ⟨m, hm⟩ : ∃ m, m = kn x2 y2 l := ⟨_, rfl⟩
  have e1 : 0 ≤ k := by rw [hk]; exact k1_lo _ _ a0 c0
  have e2 : k ≤ 1 := by rw [hk]; exact k1_hi _ _ b0 d0
  have e3 : 0 ≤ l := by rw [hl]; exact kn_lo _ _ _ a1 c1 e1
  have e4 : l ≤ 1 := by rw [hl]; exact kn_hi _ _ _ b1 d1 e2
  have e5 : 0 ≤ m := by rw [hm]; exact kn_lo _ _ _ a2 c2 e3
  have e6 : m ≤ 1 := by rw [hm]; exact kn_hi _ _ _ b2 d2 e4
  have A0 : ∀ w, (callFunc 68 #[.int .u64 x0, .int .u64 y0, .int .u64 0]).run Tryd.prog w = .ok (.value (.tuple #[.int .u64 (s1 x0 y0), .int .u64 k])) w := by rw [hk]; exact add64_1 _ _ a0 c0
  have A1 : ∀ w, (callFunc 68 #[.int .u64 x1, .int .u64 y1, .int .u64 k]).run Tryd.prog w = .ok (.value (.tuple #[.int .u64 (sn x1 y1 k), .int .u64 l])) w := by rw [hl]; exact add64_n _ _ _ a1 c1 e1 e2
  have A2 : ∀ w, (callFunc 68 #[.int .u64 x2, .int .u64 y2, .int .u64 l]).run Tryd.prog w = .ok (.value (.tuple #[.int .u64 (sn x2 y2 l), .int .u64 m])) w := by rw [hm]; exact add64_n _ _ _ a2 c2 e3 e4
  have A3 : ∀ w, (callFunc 68 #[.int .u64 x3, .int .u64 y3, .int .u64 m]).run Tryd.prog w = .ok (.value (.tuple #[.int .u64 (sn x3 y3 m), .int .u64 (kn x3 y3 m)])) w := add64_n _ _ _ a3 c3 e5 e6
  have G : ∀ o, o = kn x3 y3 m → True := fun _ _ => trivial
  rw [← hk, ← hl, ← hm]
  clear hk hl hm G
  generalize s1 x0 y0 = r0 at *
  generalize sn x1 y1 k = r1 at *
  generalize sn x2 y2 l = r2 at *
  generalize sn x3 y3 m = r3 at *
  generalize kn x3 y3 m = o at *
  go_enter Tryd.func51, Tryd.ntmps51
  go_wp2
  go_loopw [6, 8] (fun c i wr => ∃ n : Nat, (i = .int .i64 0 ∧ c = .int .u64 0 ∧ wr = ((((w.alloc (.cells #[.int .u64 x0, .int .u64 x1, .int .u64 x2, .int .u64 x3] 77)).alloc (.cells #[.int .u64 y0, .int .u64 y1, .int .u64 y2, .int .u64 y3] 77)).alloc (.cells #[.int .u64 0, .int .u64 0, .int .u64 0, .int .u64 0] 77)).alloc (.cells #[.int .u64 0, .int .u64 0, .int .u64 0, .int .u64 0] 77)).drewN n) ∨ (i = .int .i64 1 ∧ c = .int .u64 k ∧ wr = ((((w.alloc (.cells #[.int .u64 x0, .int .u64 x1, .int .u64 x2, .int .u64 x3] 77)).alloc (.cells #[.int .u64 y0, .int .u64 y1, .int .u64 y2, .int .u64 y3] 77)).alloc (.cells #[.int .u64 0, .int .u64 0, .int .u64 0, .int .u64 0] 77)).alloc (.cells #[.int .u64 r0, .int .u64 0, .int .u64 0, .int .u64 0] 77)).drewN n) ∨ (i = .int .i64 2 ∧ c = .int .u64 l ∧ wr = ((((w.alloc (.cells #[.int .u64 x0, .int .u64 x1, .int .u64 x2, .int .u64 x3] 77)).alloc (.cells #[.int .u64 y0, .int .u64 y1, .int .u64 y2, .int .u64 y3] 77)).alloc (.cells #[.int .u64 0, .int .u64 0, .int .u64 0, .int .u64 0] 77)).alloc (.cells #[.int .u64 r0, .int .u64 r1, .int .u64 0, .int .u64 0] 77)).drewN n) ∨ (i = .int .i64 3 ∧ c = .int .u64 m ∧ wr = ((((w.alloc (.cells #[.int .u64 x0, .int .u64 x1, .int .u64 x2, .int .u64 x3] 77)).alloc (.cells #[.int .u64 y0, .int .u64 y1, .int .u64 y2, .int .u64 y3] 77)).alloc (.cells #[.int .u64 0, .int .u64 0, .int .u64 0, .int .u64 0] 77)).alloc (.cells #[.int .u64 r0, .int .u64 r1, .int .u64 r2, .int .u64 0] 77)).drewN n) ∨ (i = .int .i64 4 ∧ c = .int .u64 o ∧ wr = ((((w.alloc (.cells #[.int .u64 x0, .int .u64 x1, .int .u64 x2, .int .u64 x3] 77)).alloc (.cells #[.int .u64 y0, .int .u64 y1, .int .u64 y2, .int .u64 y3] 77)).alloc (.cells #[.int .u64 0, .int .u64 0, .int .u64 0, .int .u64 0] 77)).alloc (.cells #[.int .u64 r0, .int .u64 r1, .int .u64 r2, .int .u64 r3] 77)).drewN n)) (fun _ i _ => 4 - (intOf i).toNat)
  case atStart => exact ⟨0, .inl ⟨rfl, rfl, by rw [World.drewN_zero]⟩⟩
  case round =>
    obtain ⟨n, ⟨rfl, rfl, rfl⟩ | ⟨rfl, rfl, rfl⟩ | ⟨rfl, rfl, rfl⟩ | ⟨rfl, rfl, rfl⟩ | ⟨rfl, rfl, rfl⟩⟩ := hrel
    · go_wp2
      go_region_with (simp only [A0])
      all_goals
        go_wp2
        go_roundw
        case rel => exact ⟨n + 1, by refine .inr (.inl ⟨rfl, rfl, ?_⟩); rw [setCell_drawn]; simp [go_sem]⟩
        case measure => simp [intOf]
    · go_wp2
      go_region_with (simp only [A1])
      all_goals
        go_wp2
        go_roundw
        case rel => exact ⟨n + 1, by refine .inr (.inr (.inl ⟨rfl, rfl, ?_⟩)); rw [setCell_drawn]; simp [go_sem]⟩
        case measure => simp [intOf]
    · go_wp2
      go_region_with (simp only [A2])
      all_goals
        go_wp2
        go_roundw
        case rel => exact ⟨n + 1, by refine .inr (.inr (.inr (.inl ⟨rfl, rfl, ?_⟩))); rw [setCell_drawn]; simp [go_sem]⟩
        case measure => simp [intOf]
    · go_wp2
      go_region_with (simp only [A3])
      all_goals
        go_wp2
        go_roundw
        case rel => exact ⟨n + 1, by refine .inr (.inr (.inr (.inr ⟨rfl, rfl, ?_⟩))); rw [setCell_drawn]; simp [go_sem]⟩
        case measure => simp [intOf]
    · go_wp2
      simp only [setCell_drawn]
      refine bodyPost_ret (by simp [results, Tryd.results51, go_sem]) rfl ⟨rfl, ?_⟩
      exact ⟨_, _, _, _, n, by simp [go_sem]; rfl⟩
end Go.Proofs.YtigcbgehnlilaaaDoor
