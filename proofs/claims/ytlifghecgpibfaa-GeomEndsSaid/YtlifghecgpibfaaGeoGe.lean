
/- What '==' says of two fractions; what At comes to at a line's ends and at a whole point. Conditions: points in range. -/
import Derived.Test.YtlifghecgpibfaaGeoGc
import Derived.Test.YtlifghecgpibfaaGeoEb
namespace Go.Proofs.Ytlifghecgpibfaa
open Go.ChangeShapes Go.WideShapes Go.ChangeAt Go.RowKit
set_option linter.unusedVariables false
set_option linter.unusedSimpArgs false

theorem eq_Ratio {a b c d : Int} (ha : Fit a) (hc : Fit c) (hb : Fit b) (hd : Fit d) (w : World) : (Op.equalIn 10000 36 (.agg #[.int .u64 (L0 a), .int .u64 (L1 a), .int .u64 (L2 a), .int .u64 (L3 a), .int .u64 (L0 b), .int .u64 (L1 b), .int .u64 (L2 b), .int .u64 (L3 b)]) (.agg #[.int .u64 (L0 c), .int .u64 (L1 c), .int .u64 (L2 c), .int .u64 (L3 c), .int .u64 (L0 d), .int .u64 (L1 d), .int .u64 (L2 d), .int .u64 (L3 d)])).run Try.prog w = .ok (decide (a = c ∧ b = d)) w := by
  have e : ∀ x y, Fit x → Fit y → ∀ w, (Op.equalIn 9999 34 (.agg #[.int .u64 (L0 x), .int .u64 (L1 x), .int .u64 (L2 x), .int .u64 (L3 x)]) (.agg #[.int .u64 (L0 y), .int .u64 (L1 y), .int .u64 (L2 y), .int .u64 (L3 y)])).run Try.prog w = .ok (decide (x = y)) w := fun x y hx hy w => by
    rw [← dec_fit hx hy]
    have u3 := Try.underlying32
    have a3 := Try.isAgg32
    have z3 := Try.sizeOf32
    rw [show (9999 : Nat) = 9998 + 1 from rfl, Op.equalIn]
    simp only [Sem.run_bind, run_underlying Try.underlying34, Result.andThen_ok]
    simp only [Std.Legacy.Range.forIn_eq_forIn_range', Std.Legacy.Range.size, Nat.sub_zero, Nat.add_sub_cancel, Nat.div_one, List.range'_succ, List.range'_zero, List.forIn_cons, List.forIn_nil]
    go_simp
    generalize L0 x = x0; generalize L1 x = x1; generalize L2 x = x2; generalize L3 x = x3
    generalize L0 y = y0; generalize L1 y = y1; generalize L2 y = y2; generalize L3 y = y3
    by_cases h0 : x0 = y0 <;> by_cases h1 : x1 = y1 <;> by_cases h2 : x2 = y2 <;> by_cases h3 : x3 = y3 <;> simp [h0, h1, h2, h3]
  have e1 := e a c ha hc
  have e2 := e b d hb hd
  rw [show (10000 : Nat) = 9999 + 1 from rfl, run_equalIn_struct w 9999 36 _ _ (by simp [Program.fieldsOf, Try.underlying36]) (by kernel_rfl)]
  simp only [Program.fieldsOf, Try.underlying36]
  generalize 9999 = D at *
  obtain ⟨x, hx⟩ : ∃ x, decide (a = c) = x := ⟨_, rfl⟩
  obtain ⟨y, hy⟩ : ∃ y, decide (b = d) = y := ⟨_, rfl⟩
  have ht : decide (a = c ∧ b = d) = (x && y) := by rw [← hx, ← hy]; simp
  simp only [hx] at e1
  simp only [hy] at e2
  rw [ht]
  clear hx hy ht e ha hb hc hd
  cases x <;> cases y <;> simp [Op.eqFields, go_sem, part, e1, e2]
theorem at_bwd {l1 l2 h1 h2 X p2 q2 p3 q3 p q : Int} (hl : Rng l1 l2) (hh : Rng h1 h2) (hX : -268435456 ≤ X ∧ X ≤ 268435456) (hlt : l1 < h1) (h : Atp l1 l2 h1 h2 X p2 q2 p3 q3 p q) (w : World) :
    Calls Try.prog 19 #[.agg #[.int .i64 h1, .int .i64 h2], .agg #[.int .i64 l1, .int .i64 l2], .agg #[.int .u64 (L0 X), .int .u64 (L1 X), .int .u64 (L2 X), .int .u64 (L3 X), .int .u64 (L0 1), .int .u64 (L1 1), .int .u64 (L2 1), .int .u64 (L3 1)]] w fun e w' => e = .returned (atE p q (cmV X 1 l1 1) (cmV X 1 h1 1)) ∧ Below w.heap.size w w' :=
  At_bwd hl hh hX hlt h.f1 h.f2 h.f3 h.S1 h.S2 h.S3 h.S4 w
theorem at_small {l1 l2 h1 h2 X : Int} (hl : Rng l1 l2) (hh : Rng h1 h2) (hX : -268435456 ≤ X ∧ X ≤ 268435456) (hlt : l1 < h1) : ∃ p q,
    (∀ w, Calls Try.prog 19 #[.agg #[.int .i64 l1, .int .i64 l2], .agg #[.int .i64 h1, .int .i64 h2], .agg #[.int .u64 (L0 X), .int .u64 (L1 X), .int .u64 (L2 X), .int .u64 (L3 X), .int .u64 (L0 1), .int .u64 (L1 1), .int .u64 (L2 1), .int .u64 (L3 1)]] w fun e w' => e = .returned (atE p q (cmV X 1 l1 1) (cmV X 1 h1 1)) ∧ Below w.heap.size w w') ∧
    (∀ w, Calls Try.prog 19 #[.agg #[.int .i64 h1, .int .i64 h2], .agg #[.int .i64 l1, .int .i64 l2], .agg #[.int .u64 (L0 X), .int .u64 (L1 X), .int .u64 (L2 X), .int .u64 (L3 X), .int .u64 (L0 1), .int .u64 (L1 1), .int .u64 (L2 1), .int .u64 (L3 1)]] w fun e w' => e = .returned (atE p q (cmV X 1 l1 1) (cmV X 1 h1 1)) ∧ Below w.heap.size w w') ∧
    Fit p ∧ Fit q ∧ Rgt p q ∧ p * (h1 - l1) = ((X - l1) * (h2 - l2) + l2 * (h1 - l1)) * q := by
  obtain ⟨p2, q2, p3, q3, p, q, h⟩ := at_parts hl hh hX hlt
  exact ⟨p, q, fun w => at_fwd hl hh hX hlt h w, fun w => at_bwd hl hh hX hlt h w, h.fp, h.fq, h.rgt, h.eq⟩
def At2 (a1 a2 b1 b2 X r s er : Int) : Prop := ∀ w, Calls Try.prog 19 #[.agg #[.int .i64 a1, .int .i64 a2], .agg #[.int .i64 b1, .int .i64 b2], .agg #[.int .u64 (L0 X), .int .u64 (L1 X), .int .u64 (L2 X), .int .u64 (L3 X), .int .u64 (L0 1), .int .u64 (L1 1), .int .u64 (L2 1), .int .u64 (L3 1)]] w fun e w' => e = .returned (.tuple #[.agg #[.int .u64 (L0 r), .int .u64 (L1 r), .int .u64 (L2 r), .int .u64 (L3 r), .int .u64 (L0 s), .int .u64 (L1 s), .int .u64 (L2 s), .int .u64 (L3 s)], .int .i64 er]) ∧ Below w.heap.size w w'
theorem atE_in {p q l1 h1 X : Int} (h : l1 ≤ X) (k : X ≤ h1) : atE p q (cmV X 1 l1 1) (cmV X 1 h1 1) = .tuple #[.agg #[.int .u64 (L0 p), .int .u64 (L1 p), .int .u64 (L2 p), .int .u64 (L3 p), .int .u64 (L0 q), .int .u64 (L1 q), .int .u64 (L2 q), .int .u64 (L3 q)], .int .i64 0] := by
  rw [cmV_whole, cmV_whole]
  unfold atE cmpZ
  rw [if_neg (by simp; split <;> omega), if_neg (by simp; repeat' split <;> omega)]
theorem atE_out {p q l1 h1 X : Int} (h : X < l1 ∨ h1 < X) (hlt : l1 < h1) : atE p q (cmV X 1 l1 1) (cmV X 1 h1 1) = .tuple #[.agg #[.int .u64 (L0 0), .int .u64 (L1 0), .int .u64 (L2 0), .int .u64 (L3 0), .int .u64 (L0 0), .int .u64 (L1 0), .int .u64 (L2 0), .int .u64 (L3 0)], .int .i64 1] := by
  rw [cmV_whole, cmV_whole]
  unfold atE cmpZ
  rcases h with h | h
  · rw [if_pos (by simp [h])]
  · rw [if_neg (by simp; split <;> omega), if_pos (by simp; repeat' split <;> omega)]
/-- at a line's ends, and at a whole point p -/
theorem at_ends {l1 l2 h1 h2 p1 p2 : Int} (hl : Rng l1 l2) (hh : Rng h1 h2) (hp : Rng p1 p2) (hlt : l1 < h1) :
    (At2 l1 l2 h1 h2 l1 l2 1 0 ∧ At2 h1 h2 l1 l2 l1 l2 1 0) ∧ (At2 l1 l2 h1 h2 h1 h2 1 0 ∧ At2 h1 h2 l1 l2 h1 h2 1 0) ∧
    ∃ r s er, At2 l1 l2 h1 h2 p1 r s er ∧ At2 h1 h2 l1 l2 p1 r s er ∧ Fit r ∧ Fit s ∧ (er = 1 ∨ er = 0 ∧ ((r = p2 ∧ s = 1) ↔ (p1 = l1 ∧ p2 = l2) ∨ (p1 = h1 ∧ p2 = h2) ∨ OnP p1 p2 l1 l2 h1 h2)) := by
  have one : ∀ X Y : Int, -268435456 ≤ X ∧ X ≤ 268435456 → l1 ≤ X → X ≤ h1 → Y * (h1 - l1) = (X - l1) * (h2 - l2) + l2 * (h1 - l1) → At2 l1 l2 h1 h2 X Y 1 0 ∧ At2 h1 h2 l1 l2 X Y 1 0 := fun X Y hX k1 k2 e => by
    obtain ⟨p, q, f, g, fp, fq, hr, hm⟩ := at_small hl hh hX hlt
    obtain ⟨rfl, rfl⟩ := rgt_uniq hr (whole_rgt Y) (by
      have : (h1 - l1) * (p * 1) = (h1 - l1) * (Y * q) := by grind
      exact eq_of_mul (by omega) this)
    rw [atE_in k1 k2] at f g
    exact ⟨f, g⟩
  refine ⟨one l1 l2 ⟨hl.1, hl.2.1⟩ (by omega) (by omega) (by rw [Int.sub_self, Int.zero_mul, Int.zero_add]), one h1 h2 ⟨hh.1, hh.2.1⟩ (by omega) (by omega) (by grind), ?_⟩
  obtain ⟨p, q, f, g, fp, fq, hr, hm⟩ := at_small hl hh (X := p1) ⟨hp.1, hp.2.1⟩ hlt
  by_cases hX : p1 < l1 ∨ h1 < p1
  · rw [atE_out hX hlt] at f g
    exact ⟨0, 0, 1, f, g, ⟨by decide, by decide⟩, ⟨by decide, by decide⟩, .inl rfl⟩
  · rw [atE_in (by omega) (by omega)] at f g
    refine ⟨p, q, 0, f, g, fp, fq, .inr ⟨rfl, ?_⟩⟩
    have col : (p = p2 ∧ q = 1) ↔ ar l1 l2 h1 h2 p1 p2 = 0 := by
      constructor
      · rintro ⟨rfl, rfl⟩
        unfold ar
        grind
      · intro e
        refine rgt_uniq hr (whole_rgt p2) ?_
        have : (h1 - l1) * (p * 1) = (h1 - l1) * (p2 * q) := by
          unfold ar at e
          grind
        exact eq_of_mul (by omega) this
    rw [col]
    constructor
    · intro e
      obtain ⟨z1, z2⟩ := end_x e (by omega)
      by_cases e1 : p1 = l1
      · exact .inl ⟨e1, z1 e1⟩
      · by_cases e2 : p1 = h1
        · exact .inr (.inl ⟨e2, z2 e2⟩)
        · exact .inr (.inr ⟨.inl ⟨.inl (by omega), .inl (by omega)⟩, e⟩)
    · rintro (⟨rfl, rfl⟩ | ⟨rfl, rfl⟩ | h)
      · exact ar_same _ _ _ _
      · exact ar_same' _ _ _ _
      · exact h.2
theorem at_law {a1 a2 b1 b2 p1 p2 : Int} (ha : Rng a1 a2) (hb : Rng b1 b2) (hp : Rng p1 p2) (h : ¬ a1 = b1) :
    At2 a1 a2 b1 b2 a1 a2 1 0 ∧ At2 a1 a2 b1 b2 b1 b2 1 0 ∧ ∃ r s er, At2 a1 a2 b1 b2 p1 r s er ∧ Fit r ∧ Fit s ∧ (er = 1 ∨ er = 0 ∧ ((r = p2 ∧ s = 1) ↔ (p1 = a1 ∧ p2 = a2) ∨ (p1 = b1 ∧ p2 = b2) ∨ onB p1 p2 a1 a2 b1 b2 = true)) := by
  have on : onB p1 p2 a1 a2 b1 b2 = true ↔ OnP p1 p2 a1 a2 b1 b2 := by rw [onB_iff]; exact ⟨fun k => k.2, fun k => ⟨⟨hp, ha, hb⟩, k⟩⟩
  rw [on]
  rcases Int.lt_or_gt_of_ne h with k | k
  · obtain ⟨x, y, r, s, er, f, _, fr, fs, z⟩ := at_ends ha hb hp k
    exact ⟨x.1, y.1, r, s, er, f, fr, fs, z⟩
  · obtain ⟨x, y, r, s, er, _, f, fr, fs, z⟩ := at_ends hb ha hp k
    refine ⟨y.2, x.2, r, s, er, f, fr, fs, ?_⟩
    rw [on_swap] at z
    rcases z with z | ⟨z1, z2⟩
    · exact .inl z
    · refine .inr ⟨z1, z2.trans ?_⟩
      constructor
      · rintro (q | q | q)
        · exact .inr (.inl q)
        · exact .inl q
        · exact .inr (.inr q)
      · rintro (q | q | q)
        · exact .inr (.inl q)
        · exact .inl q
        · exact .inr (.inr q)
end Go.Proofs.Ytlifghecgpibfaa
