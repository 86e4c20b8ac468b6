
/- The contract of wide.minus over words. No condition but that the arguments are words. -/
import Derived.Test.YtibnackmddigaaaWideA
namespace Go.Proofs.Ytibnackmddigaaa
open Go.ChangeShapes Go.WideShapes Go.ChangeAt Go.RowKit Go.Shelf
set_option linter.unusedVariables false

/-- the borrows of a difference -/
def b1w (x0 y0 : Int) : Int := -((x0 - y0) / 18446744073709551616)
def bnw (x y c : Int) : Int := -((x - y - c) / 18446744073709551616)
theorem b1_lo (x0 y0 : Int) (h : x0 ≤ 18446744073709551615) (h' : 0 ≤ y0) : 0 ≤ b1w x0 y0 := by unfold b1w; omega
theorem b1_hi (x0 y0 : Int) (h : 0 ≤ x0) (h' : y0 ≤ 18446744073709551615) : b1w x0 y0 ≤ 1 := by unfold b1w; omega
theorem bn_lo (x y c : Int) (h : x ≤ 18446744073709551615) (h' : 0 ≤ y) (h2 : 0 ≤ c) : 0 ≤ bnw x y c := by unfold bnw; omega
theorem bn_hi (x y c : Int) (h : 0 ≤ x) (h' : y ≤ 18446744073709551615) (h2 : c ≤ 1) : bnw x y c ≤ 1 := by unfold bnw; omega
def d1w (x0 y0 : Int) : Int := (x0 - y0) % 18446744073709551616
def dnw (x y c : Int) : Int := (x - y - c) % 18446744073709551616
theorem sub64 (x y b : Int) (hx : 0 ≤ x) (hx' : x ≤ 18446744073709551615) (hy : 0 ≤ y) (hy' : y ≤ 18446744073709551615) (hb0 : 0 ≤ b) (hb : b ≤ 1) (w : World) : (callFunc 126 #[.int .u64 x, .int .u64 y, .int .u64 b]).run Try.prog w =
    .ok (.value (.tuple #[.int .u64 ((x - y - b) % 18446744073709551616), .int .u64 (-((x - y - b) / 18446744073709551616))])) w := by
  obtain ⟨x, rfl⟩ := Int.eq_ofNat_of_zero_le hx
  obtain ⟨y, rfl⟩ := Int.eq_ofNat_of_zero_le hy
  obtain ⟨b, rfl⟩ := Int.eq_ofNat_of_zero_le hb0
  have e1 : (((x + 18446744073709551616 - y - b) % 18446744073709551616 : Nat) : Int) = ((x : Int) - y - b) % 18446744073709551616 := by omega
  have e2 : ((if x < y + b then 1 else 0 : Nat) : Int) = -(((x : Int) - y - b) / 18446744073709551616) := by split <;> omega
  rw [← e1, ← e2, run_callFunc_extern Try.func126 (by kernel_rfl) (by kernel_rfl) (by kernel_rfl) (e := sub64Entry) (by kernel_rfl), run_sub64 x y b (by omega)]
  rfl
theorem sub64_1 (x y : Int) (hx : 0 ≤ x) (hx' : x ≤ 18446744073709551615) (hy : 0 ≤ y) (hy' : y ≤ 18446744073709551615) (w : World) : (callFunc 126 #[.int .u64 x, .int .u64 y, .int .u64 0]).run Try.prog w =
    .ok (.value (.tuple #[.int .u64 (d1w x y), .int .u64 (b1w x y)])) w := by
  have h := sub64 x y 0 hx hx' hy hy' (Int.le_refl 0) (by decide) w
  rw [Int.sub_zero] at h
  exact h
theorem sub64_n (x y b : Int) (hx : 0 ≤ x) (hx' : x ≤ 18446744073709551615) (hy : 0 ≤ y) (hy' : y ≤ 18446744073709551615) (hb0 : 0 ≤ b) (hb : b ≤ 1) (w : World) : (callFunc 126 #[.int .u64 x, .int .u64 y, .int .u64 b]).run Try.prog w =
    .ok (.value (.tuple #[.int .u64 (dnw x y b), .int .u64 (bnw x y b)])) w := sub64 x y b hx hx' hy hy' hb0 hb w
set_option maxRecDepth 20000 in
set_option maxHeartbeats 1600000 in
theorem minus_gen (x0 x1 x2 x3 : Int) (y0 y1 y2 y3 : Int) (h : W4 x0 x1 x2 x3) (h' : W4 y0 y1 y2 y3) (w : World) :
    Calls Try.prog 125 #[.agg #[.int .u64 x0, .int .u64 x1, .int .u64 x2, .int .u64 x3], .agg #[.int .u64 y0, .int .u64 y1, .int .u64 y2, .int .u64 y3]] w fun e w' => e = .returned (.agg #[.int .u64 (d1w x0 y0), .int .u64 (dnw x1 y1 (b1w x0 y0)), .int .u64 (dnw x2 y2 (bnw x1 y1 (b1w x0 y0))), .int .u64 (dnw x3 y3 (bnw x2 y2 (bnw x1 y1 (b1w x0 y0))))]) ∧ ∃ c1 c2 c3 c4 n, w' = ((((w.alloc (.cells c1 113)).alloc (.cells c2 113)).alloc (.cells c3 113)).alloc (.cells c4 113)).drewN n := by
  obtain ⟨a0, b0, a1, b1, a2, b2, a3, b3⟩ := h
  obtain ⟨c0, d0, c1, d1, c2, d2, c3, d3⟩ := h'
  obtain ⟨k, hk⟩ : ∃ k, k = b1w x0 y0 := ⟨_, rfl⟩
  obtain ⟨l, hl⟩ : ∃ l, l = bnw x1 y1 k := ⟨_, rfl⟩
  obtain ⟨m, hm⟩ : ∃ m, m = bnw x2 y2 l := ⟨_, rfl⟩
  have e1 : 0 ≤ k := by rw [hk]; exact b1_lo _ _ b0 c0
  have e2 : k ≤ 1 := by rw [hk]; exact b1_hi _ _ a0 d0
  have e3 : 0 ≤ l := by rw [hl]; exact bn_lo _ _ _ b1 c1 e1
  have e4 : l ≤ 1 := by rw [hl]; exact bn_hi _ _ _ a1 d1 e2
  have e5 : 0 ≤ m := by rw [hm]; exact bn_lo _ _ _ b2 c2 e3
  have e6 : m ≤ 1 := by rw [hm]; exact bn_hi _ _ _ a2 d2 e4
  have A0 : ∀ w, (callFunc 126 #[.int .u64 x0, .int .u64 y0, .int .u64 0]).run Try.prog w = .ok (.value (.tuple #[.int .u64 (d1w x0 y0), .int .u64 k])) w := by rw [hk]; exact sub64_1 _ _ a0 b0 c0 d0
  have A1 : ∀ w, (callFunc 126 #[.int .u64 x1, .int .u64 y1, .int .u64 k]).run Try.prog w = .ok (.value (.tuple #[.int .u64 (dnw x1 y1 k), .int .u64 l])) w := by rw [hl]; exact sub64_n _ _ _ a1 b1 c1 d1 e1 e2
  have A2 : ∀ w, (callFunc 126 #[.int .u64 x2, .int .u64 y2, .int .u64 l]).run Try.prog w = .ok (.value (.tuple #[.int .u64 (dnw x2 y2 l), .int .u64 m])) w := by rw [hm]; exact sub64_n _ _ _ a2 b2 c2 d2 e3 e4
  have A3 : ∀ w, (callFunc 126 #[.int .u64 x3, .int .u64 y3, .int .u64 m]).run Try.prog w = .ok (.value (.tuple #[.int .u64 (dnw x3 y3 m), .int .u64 (bnw x3 y3 m)])) w := sub64_n _ _ _ a3 b3 c3 d3 e5 e6
  have G : ∀ o, o = bnw x3 y3 m → True := fun _ _ => trivial
  rw [← hk, ← hl, ← hm]
  clear hk hl hm G
  generalize d1w x0 y0 = r0 at *
  generalize dnw x1 y1 k = r1 at *
  generalize dnw x2 y2 l = r2 at *
  generalize dnw x3 y3 m = r3 at *
  generalize bnw x3 y3 m = o at *
  go_enter Try.func125, Try.ntmps125
  go_wp2
  go_loopw [6, 8] (fun c i wr => ∃ n : Nat, (i = .int .i64 0 ∧ c = .int .u64 0 ∧ wr = ((((w.alloc (.cells #[.int .u64 x0, .int .u64 x1, .int .u64 x2, .int .u64 x3] 113)).alloc (.cells #[.int .u64 y0, .int .u64 y1, .int .u64 y2, .int .u64 y3] 113)).alloc (.cells #[.int .u64 0, .int .u64 0, .int .u64 0, .int .u64 0] 113)).alloc (.cells #[.int .u64 0, .int .u64 0, .int .u64 0, .int .u64 0] 113)).drewN n) ∨ (i = .int .i64 1 ∧ c = .int .u64 k ∧ wr = ((((w.alloc (.cells #[.int .u64 x0, .int .u64 x1, .int .u64 x2, .int .u64 x3] 113)).alloc (.cells #[.int .u64 y0, .int .u64 y1, .int .u64 y2, .int .u64 y3] 113)).alloc (.cells #[.int .u64 0, .int .u64 0, .int .u64 0, .int .u64 0] 113)).alloc (.cells #[.int .u64 r0, .int .u64 0, .int .u64 0, .int .u64 0] 113)).drewN n) ∨ (i = .int .i64 2 ∧ c = .int .u64 l ∧ wr = ((((w.alloc (.cells #[.int .u64 x0, .int .u64 x1, .int .u64 x2, .int .u64 x3] 113)).alloc (.cells #[.int .u64 y0, .int .u64 y1, .int .u64 y2, .int .u64 y3] 113)).alloc (.cells #[.int .u64 0, .int .u64 0, .int .u64 0, .int .u64 0] 113)).alloc (.cells #[.int .u64 r0, .int .u64 r1, .int .u64 0, .int .u64 0] 113)).drewN n) ∨ (i = .int .i64 3 ∧ c = .int .u64 m ∧ wr = ((((w.alloc (.cells #[.int .u64 x0, .int .u64 x1, .int .u64 x2, .int .u64 x3] 113)).alloc (.cells #[.int .u64 y0, .int .u64 y1, .int .u64 y2, .int .u64 y3] 113)).alloc (.cells #[.int .u64 0, .int .u64 0, .int .u64 0, .int .u64 0] 113)).alloc (.cells #[.int .u64 r0, .int .u64 r1, .int .u64 r2, .int .u64 0] 113)).drewN n) ∨ (i = .int .i64 4 ∧ c = .int .u64 o ∧ wr = ((((w.alloc (.cells #[.int .u64 x0, .int .u64 x1, .int .u64 x2, .int .u64 x3] 113)).alloc (.cells #[.int .u64 y0, .int .u64 y1, .int .u64 y2, .int .u64 y3] 113)).alloc (.cells #[.int .u64 0, .int .u64 0, .int .u64 0, .int .u64 0] 113)).alloc (.cells #[.int .u64 r0, .int .u64 r1, .int .u64 r2, .int .u64 r3] 113)).drewN n)) (fun _ i _ => 4 - (intOf i).toNat)
  case atStart => exact ⟨0, .inl ⟨rfl, rfl, by rw [World.drewN_zero]⟩⟩
  case round =>
    obtain ⟨n, ⟨rfl, rfl, rfl⟩ | ⟨rfl, rfl, rfl⟩ | ⟨rfl, rfl, rfl⟩ | ⟨rfl, rfl, rfl⟩ | ⟨rfl, rfl, rfl⟩⟩ := hrel
    · go_wp2
      go_region_with (simp only [A0])
      all_goals
        go_wp2
        go_roundw
        case rel => exact ⟨n + 1, by refine .inr (.inl ⟨rfl, rfl, ?_⟩); rw [setCell_drawn]; simp [go_sem]⟩
        case measure => simp [intOf]
    · go_wp2
      go_region_with (simp only [A1])
      all_goals
        go_wp2
        go_roundw
        case rel => exact ⟨n + 1, by refine .inr (.inr (.inl ⟨rfl, rfl, ?_⟩)); rw [setCell_drawn]; simp [go_sem]⟩
        case measure => simp [intOf]
    · go_wp2
      go_region_with (simp only [A2])
      all_goals
        go_wp2
        go_roundw
        case rel => exact ⟨n + 1, by refine .inr (.inr (.inr (.inl ⟨rfl, rfl, ?_⟩))); rw [setCell_drawn]; simp [go_sem]⟩
        case measure => simp [intOf]
    · go_wp2
      go_region_with (simp only [A3])
      all_goals
        go_wp2
        go_roundw
        case rel => exact ⟨n + 1, by refine .inr (.inr (.inr (.inr ⟨rfl, rfl, ?_⟩))); rw [setCell_drawn]; simp [go_sem]⟩
        case measure => simp [intOf]
    · go_wp2
      simp only [setCell_drawn]
      refine bodyPost_ret (by simp [results, Try.results125, go_sem]) rfl ⟨rfl, ?_⟩
      exact ⟨_, _, _, _, n, by simp [go_sem]; rfl⟩
end Go.Proofs.Ytibnackmddigaaa
