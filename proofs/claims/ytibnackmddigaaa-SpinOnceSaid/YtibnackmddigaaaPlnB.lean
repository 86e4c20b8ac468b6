
/- The contracts of plan's pair, touch and line's values; keys that are points and pairs. Conditions: those that each theorem names. -/
import Derived.Test.YtibnackmddigaaaPlnA
import Derived.Test.YtibnackmddigaaaMapG
import Derived.Laws.StructEq
import Derived.Laws.Tables
import Derived.Laws.Cover2
namespace Go.Proofs.Ytibnackmddigaaa.Pl
open Go.ChangeShapes Go.WideShapes Go.ChangeAt Go.RowKit
set_option linter.unusedVariables false
set_option linter.unusedSimpArgs false

def k2 (p : Int × Int) : Value := .agg #[.int .i64 p.1, .int .i64 p.2]
theorem eq_two (a1 a2 b1 b2 : Int) (w : World) : (Op.equalIn 10000 151 (.agg #[.int .i64 a1, .int .i64 a2]) (.agg #[.int .i64 b1, .int .i64 b2])).run Try.prog w = .ok (decide (a1 = b1 ∧ a2 = b2)) w := by
  have u3 := Try.underlying3
  have a3 := Try.isAgg3
  have z3 := Try.sizeOf3
  rw [show (10000 : Nat) = 9999 + 1 from rfl, Op.equalIn]
  simp only [Sem.run_bind, run_underlying Try.underlying151, Result.andThen_ok]
  simp only [Std.Legacy.Range.forIn_eq_forIn_range', Std.Legacy.Range.size, Nat.sub_zero, Nat.add_sub_cancel, Nat.div_one, List.range'_succ, List.range'_zero, List.forIn_cons, List.forIn_nil]
  go_simp
  by_cases h0 : a1 = b1 <;> by_cases h1 : a2 = b2 <;> simp [h0, h1]
theorem chk_int (em : Bool) (n : Nat) (z : Int) (w : World) : (Instr.checkKey em (n + 1) 3 (.int .i64 z)).run Try.prog w = .ok () w := by
  simp [Instr.checkKey, run_underlying Try.underlying3, Result.andThen]
theorem key_two : KeyG Try.prog 151 k2 where
  chk em p w := by
    have u3 := Try.underlying3
    have a3 := Try.isAgg3
    have z3 := Try.sizeOf3
    unfold k2
    rw [show (10000 : Nat) = 9998 + 1 + 1 from rfl, Instr.checkKey]
    simp only [Sem.run_bind, run_underlying Try.underlying151, Result.andThen_ok]
    simp only [Std.Legacy.Range.forIn_eq_forIn_range', Std.Legacy.Range.size, Nat.sub_zero, Nat.add_sub_cancel, Nat.div_one, List.range'_succ, List.range'_zero, List.forIn_cons, List.forIn_nil]
    go_simp
    simp [chk_int]
  eq p q w := by
    have h := eq_two p.1 p.2 q.1 q.2 w
    have e : decide (p = q) = decide (p.1 = q.1 ∧ p.2 = q.2) := by
      obtain ⟨p1, p2⟩ := p
      obtain ⟨q1, q2⟩ := q
      simp
    rw [e]
    exact h
  wide := by rw [Try.underlying151]
  kind := ⟨_, Try.underlying151⟩
theorem key_pt : KeyG Try.prog 37 k2 where
  chk em p w := by
    have u3 := Try.underlying3
    have a3 := Try.isAgg3
    have z3 := Try.sizeOf3
    unfold k2
    rw [show (10000 : Nat) = 9998 + 1 + 1 from rfl, Instr.checkKey]
    simp only [Sem.run_bind, run_underlying Try.underlying37, Result.andThen_ok]
    simp [chk_int, go_sem, part, u3, a3, z3]
  eq p q w := by
    have h := eq_Point p.1 p.2 q.1 q.2 w
    have e : decide (p = q) = decide (p.1 = q.1 ∧ p.2 = q.2) := by
      obtain ⟨p1, p2⟩ := p
      obtain ⟨q1, q2⟩ := q
      simp
    rw [e]
    exact h
  wide := by rw [Try.underlying37]
  kind := ⟨_, Try.underlying37⟩
set_option maxRecDepth 10000 in
theorem pair_any (a b : Int) (w : World) : Calls Try.prog 80 #[.int .i64 a, .int .i64 b] w fun e w' => e = .returned (k2 (min a b, max a b)) ∧ Below w.heap.size w w' := by
  go_enter Try.func80, Try.ntmps80
  go_wp2
  refine bodyPost_ret (by simp [results, Try.results80, go_sem, k2]) rfl ⟨rfl, ?_⟩
  repeat' (first | (with_reducible exact Below.refl _ _) | (with_reducible assumption) | (with_reducible refine below_drewN ?_ _) | (with_reducible refine Below.drew ?_) | (with_reducible refine Below.alloc ?_ ?_ _) | (with_reducible refine Below.setCell ?_ ?_ _) | (with_reducible refine then_ ?_ (by with_reducible assumption) ?_) | (with_reducible exact Nat.le_refl _) | (with_reducible exact Nat.le_succ _) | (with_reducible exact Nat.le_succ_of_le (by with_reducible assumption)) | omega | (simp; done) | (simp; omega) | (exact Nat.le_succ _) | (exact Nat.le_succ_of_le (by with_reducible assumption)))
/-- have two boxes a point in common? -/
def tcB (a1 a2 b1 b2 c1 c2 d1 d2 : Int) : Bool := decide (a1 ≤ d1) && decide (c1 ≤ b1) && decide (a2 ≤ d2) && decide (c2 ≤ b2)
set_option maxRecDepth 10000 in
theorem touch_any (a1 a2 b1 b2 c1 c2 d1 d2 : Int) (w : World) : Calls Try.prog 98 #[.agg #[.int .i64 a1, .int .i64 a2, .int .i64 b1, .int .i64 b2], .agg #[.int .i64 c1, .int .i64 c2, .int .i64 d1, .int .i64 d2]] w fun e w' => e = .returned (.bool (tcB a1 a2 b1 b2 c1 c2 d1 d2)) ∧ Below w.heap.size w w' := by
  unfold tcB
  have HB : Hid (Below w.heap.size w ((w.alloc (.cells #[.int .i64 a1, .int .i64 a2, .int .i64 b1, .int .i64 b2] 167)).alloc (.cells #[.int .i64 c1, .int .i64 c2, .int .i64 d1, .int .i64 d2] 167))) := Lib.hid (by repeat' (first | (with_reducible exact Below.refl _ _) | (with_reducible assumption) | (with_reducible refine below_drewN ?_ _) | (with_reducible refine Below.drew ?_) | (with_reducible refine Below.alloc ?_ ?_ _) | (with_reducible refine Below.setCell ?_ ?_ _) | (with_reducible refine then_ ?_ (by with_reducible assumption) ?_) | (with_reducible exact Nat.le_refl _) | (with_reducible exact Nat.le_succ _) | (with_reducible exact Nat.le_succ_of_le (by with_reducible assumption)) | omega | (simp; done) | (simp; omega) | (exact Nat.le_succ _) | (exact Nat.le_succ_of_le (by with_reducible assumption))))
  by_cases h1 : a1 ≤ d1
  · by_cases h2 : c1 ≤ b1
    · by_cases h3 : a2 ≤ d2
      · have t1 : decide (a1 ≤ d1) = true := by simpa using h1
        have t2 : decide (c1 ≤ b1) = true := by simpa using h2
        have t3 : decide (a2 ≤ d2) = true := by simpa using h3
        rw [t1, t2, t3]
        clear h1 h2 h3
        go_enter Try.func98, Try.ntmps98
        go_wp2
        go_ret
        exact ⟨rfl, HB.out⟩
      · have t1 : decide (a1 ≤ d1) = true := by simpa using h1
        have t2 : decide (c1 ≤ b1) = true := by simpa using h2
        have t3 : decide (a2 ≤ d2) = false := by simpa using h3
        rw [t1, t2, t3]
        clear h1 h2 h3
        go_enter Try.func98, Try.ntmps98
        go_wp2
        go_ret
        exact ⟨rfl, HB.out⟩
    · have t1 : decide (a1 ≤ d1) = true := by simpa using h1
      have t2 : decide (c1 ≤ b1) = false := by simpa using h2
      rw [t1, t2]
      clear h1 h2
      go_enter Try.func98, Try.ntmps98
      go_wp2
      go_ret
      exact ⟨rfl, HB.out⟩
  · have t1 : decide (a1 ≤ d1) = false := by simpa using h1
    rw [t1]
    clear h1
    go_enter Try.func98, Try.ntmps98
    go_wp2
    go_ret
    exact ⟨rfl, HB.out⟩
/-- what is on a line is in its box -/
theorem on_box {x y a1 a2 b1 b2 : Int} (h : onB x y a1 a2 b1 b2 = true) : tcB (min a1 b1) (min a2 b2) (max a1 b1) (max a2 b2) x y x y = true := by
  obtain ⟨⟨_, hx, hy⟩, _⟩ := on_eq.1 (onB_iff.1 h).2
  unfold tcB
  simp only [Bool.and_eq_true, decide_eq_true_eq]
  omega
theorem box_on (x y a1 a2 b1 b2 : Int) : (tcB (min a1 b1) (min a2 b2) (max a1 b1) (max a2 b2) x y x y && onB x y a1 a2 b1 b2) = onB x y a1 a2 b1 b2 := by
  cases h : onB x y a1 a2 b1 b2 with
  | false => simp
  | true => rw [on_box h]; rfl
theorem cross_x {a1 a2 b1 b2 c1 c2 d1 d2 : Int} (h : sg (ar a1 a2 b1 b2 c1 c2) * sg (ar a1 a2 b1 b2 d1 d2) < 0) (k : sg (ar c1 c2 d1 d2 a1 a2) * sg (ar c1 c2 d1 d2 b1 b2) < 0) : ¬ (a1 < c1 ∧ a1 < d1 ∧ b1 < c1 ∧ b1 < d1) := by
  rintro ⟨h1, h2, h3, h4⟩
  have e1 : ar c1 c2 d1 d2 b1 b2 - ar c1 c2 d1 d2 a1 a2 = ar a1 a2 b1 b2 c1 c2 - ar a1 a2 b1 b2 d1 d2 := by unfold ar; grind
  have e2 : a1 * ar c1 c2 d1 d2 b1 b2 - b1 * ar c1 c2 d1 d2 a1 a2 = d1 * ar a1 a2 b1 b2 c1 c2 - c1 * ar a1 a2 b1 b2 d1 d2 := by unfold ar; grind
  generalize ar a1 a2 b1 b2 c1 c2 = u at *
  generalize ar a1 a2 b1 b2 d1 d2 = v at *
  generalize ar c1 c2 d1 d2 a1 a2 = s at *
  generalize ar c1 c2 d1 d2 b1 b2 = t at *
  obtain ⟨m, hm⟩ : ∃ m, m = max a1 b1 := ⟨_, rfl⟩
  obtain ⟨f, hf⟩ : ∃ f, f = min c1 d1 := ⟨_, rfl⟩
  have ha : a1 ≤ m := by omega
  have hb : b1 ≤ m := by omega
  have hc : f ≤ c1 := by omega
  have hd : f ≤ d1 := by omega
  have hmf : m < f := by omega
  clear hm hf h1 h2 h3 h4
  rcases sg3 s with ⟨s1, s2⟩ | ⟨s1, s2⟩ | ⟨s1, s2⟩ <;> rcases sg3 t with ⟨t1, t2⟩ | ⟨t1, t2⟩ | ⟨t1, t2⟩ <;> rw [s2, t2] at k <;> simp at k <;>
    rcases sg3 u with ⟨u1, u2⟩ | ⟨u1, u2⟩ | ⟨u1, u2⟩ <;> rcases sg3 v with ⟨v1, v2⟩ | ⟨v1, v2⟩ | ⟨v1, v2⟩ <;> rw [u2, v2] at h <;> simp at h
  · omega
  · have p1 := Int.mul_le_mul_of_nonneg_right ha (show 0 ≤ t by omega)
    have p2 := Int.mul_le_mul_of_nonneg_right hb (show 0 ≤ -s by omega)
    have p3 := Int.mul_le_mul_of_nonneg_right hd (show 0 ≤ u by omega)
    have p4 := Int.mul_le_mul_of_nonneg_right hc (show 0 ≤ -v by omega)
    have p5 := Int.mul_lt_mul_of_pos_right hmf (show 0 < t - s by omega)
    simp only [Int.mul_neg, Int.mul_sub] at *
    have e3 : f * t - f * s = f * u - f * v := by rw [← Int.mul_sub, ← Int.mul_sub, e1]
    omega
  · have p1 := Int.mul_le_mul_of_nonneg_right ha (show 0 ≤ -t by omega)
    have p2 := Int.mul_le_mul_of_nonneg_right hb (show 0 ≤ s by omega)
    have p3 := Int.mul_le_mul_of_nonneg_right hd (show 0 ≤ -u by omega)
    have p4 := Int.mul_le_mul_of_nonneg_right hc (show 0 ≤ v by omega)
    have p5 := Int.mul_lt_mul_of_pos_right hmf (show 0 < s - t by omega)
    simp only [Int.mul_neg, Int.mul_sub] at *
    have e3 : f * t - f * s = f * u - f * v := by rw [← Int.mul_sub, ← Int.mul_sub, e1]
    omega
  · omega
theorem cross_y {a1 a2 b1 b2 c1 c2 d1 d2 : Int} (h : sg (ar a1 a2 b1 b2 c1 c2) * sg (ar a1 a2 b1 b2 d1 d2) < 0) (k : sg (ar c1 c2 d1 d2 a1 a2) * sg (ar c1 c2 d1 d2 b1 b2) < 0) : ¬ (a2 < c2 ∧ a2 < d2 ∧ b2 < c2 ∧ b2 < d2) := by
  refine cross_x (a1 := a2) (a2 := a1) (b1 := b2) (b2 := b1) (c1 := c2) (c2 := c1) (d1 := d2) (d2 := d1) ?_ ?_
  · rw [ar_flip a1 a2 b1 b2 c1 c2, ar_flip a1 a2 b1 b2 d1 d2, sg_neg, sg_neg, Int.neg_mul_neg]; exact h
  · rw [ar_flip c1 c2 d1 d2 a1 a2, ar_flip c1 c2 d1 d2 b1 b2, sg_neg, sg_neg, Int.neg_mul_neg]; exact k
theorem mt_box {a1 a2 b1 b2 c1 c2 d1 d2 : Int} (h : mtB a1 a2 b1 b2 c1 c2 d1 d2 = true) : tcB (min a1 b1) (min a2 b2) (max a1 b1) (max a2 b2) (min c1 d1) (min c2 d2) (max c1 d1) (max c2 d2) = true := by
  obtain ⟨_, _, _, hm⟩ := mtB_iff.1 h
  unfold MeetP at hm
  unfold tcB
  simp only [Bool.and_eq_true, decide_eq_true_eq]
  have key : ∀ {p1 p2 q1 q2 r1 r2 : Int}, OnP p1 p2 q1 q2 r1 r2 → (q1 ≤ p1 ∧ p1 ≤ r1 ∨ r1 ≤ p1 ∧ p1 ≤ q1) ∧ (q2 ≤ p2 ∧ p2 ≤ r2 ∨ r2 ≤ p2 ∧ p2 ≤ q2) := fun h => (on_eq.1 h).1.2
  rcases hm with hm | hm | hm | hm | hm | hm | ⟨hm, hk⟩
  · omega
  · omega
  · have := key hm; omega
  · have := key hm; omega
  · have := key hm; omega
  · have := key hm; omega
  · have x1 := cross_x hm hk
    have x2 := cross_x hk hm
    have y1 := cross_y hm hk
    have y2 := cross_y hk hm
    omega
theorem box_mt (a1 a2 b1 b2 c1 c2 d1 d2 : Int) : (tcB (min a1 b1) (min a2 b2) (max a1 b1) (max a2 b2) (min c1 d1) (min c2 d2) (max c1 d1) (max c2 d2) && mtB a1 a2 b1 b2 c1 c2 d1 d2) = mtB a1 a2 b1 b2 c1 c2 d1 d2 := by
  cases h : mtB a1 a2 b1 b2 c1 c2 d1 d2 with
  | false => simp
  | true => rw [mt_box h]; rfl
end Go.Proofs.Ytibnackmddigaaa.Pl