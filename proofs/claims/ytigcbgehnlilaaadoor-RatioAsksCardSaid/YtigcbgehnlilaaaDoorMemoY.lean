
/- Quotients and rests as one contract; what holds of them; more steps of operations (XMemo). -/
import Derived.Test.YtigcbgehnlilaaaDoorMemoX
namespace Go.Proofs.YtigcbgehnlilaaaDoor
open Go.ChangeShapes Go.WideShapes Go.ChangeAt Go.RowKit
set_option linter.unusedVariables false
set_option linter.unusedSimpArgs false
section
variable {a : Act} {w w0 : World} {af : Array Edge} {pos : String} {t : TypeId} {gd : Option (Nat × Bool)}
theorem x30 {s d : Nat} {v v' v'' : Value} (h : a.tmps[s]? = some (.tuple #[v, v', v''])) : Step Tryd.prog w0 { dst := some d, op := .extract (.tmp s) 0, type := t, pos := pos, after := af, guard := gd } (.val v) a w :=
  .inl (by simp [go_sem, execOp, h])
theorem x31 {s d : Nat} {v v' v'' : Value} (h : a.tmps[s]? = some (.tuple #[v, v', v''])) : Step Tryd.prog w0 { dst := some d, op := .extract (.tmp s) 1, type := t, pos := pos, after := af, guard := gd } (.val v') a w :=
  .inl (by simp [go_sem, execOp, h])
theorem x32 {s d : Nat} {v v' v'' : Value} (h : a.tmps[s]? = some (.tuple #[v, v', v''])) : Step Tryd.prog w0 { dst := some d, op := .extract (.tmp s) 2, type := t, pos := pos, after := af, guard := gd } (.val v'') a w :=
  .inl (by simp [go_sem, execOp, h])
end
theorem eq_z0 (w : World) : (Op.equalIn 10000 24 (.agg #[.int .u64 (L0 0), .int .u64 (L1 0), .int .u64 (L2 0), .int .u64 (L3 0)]) (.agg #[.int .u64 0, .int .u64 0, .int .u64 0, .int .u64 0])).run Tryd.prog w = .ok true w := (eq_Int _ _ _ _ _ _ _ _ w).trans rfl
def Quo (x y q r er : Int) : Prop :=
  (∀ w, Calls Tryd.prog 43 #[.agg #[.int .u64 (L0 x), .int .u64 (L1 x), .int .u64 (L2 x), .int .u64 (L3 x)], .agg #[.int .u64 (L0 y), .int .u64 (L1 y), .int .u64 (L2 y), .int .u64 (L3 y)]] w fun e w' => e = .returned (.tuple #[.agg #[.int .u64 (L0 q), .int .u64 (L1 q), .int .u64 (L2 q), .int .u64 (L3 q)], .agg #[.int .u64 (L0 r), .int .u64 (L1 r), .int .u64 (L2 r), .int .u64 (L3 r)], .int .i64 er]) ∧ Below w.heap.size w w') ∧
  (y = 0 ∧ q = 0 ∧ r = 0 ∧ er = 4 ∨ y ≠ 0 ∧ ¬ Fit (x.tdiv y) ∧ q = 0 ∧ r = 0 ∧ er = 3 ∨ y ≠ 0 ∧ Fit (x.tdiv y) ∧ q = x.tdiv y ∧ r = x.tmod y ∧ er = 0)
theorem div_all (x y : Int) (hx : Fit x) (hy : Fit y) : ∃ q r er, Quo x y q r er := by
  by_cases h : y = 0
  · subst h
    exact ⟨0, 0, 4, fun w => div_zero x w, .inl ⟨rfl, rfl, rfl, rfl⟩⟩
  · by_cases hc : Fit (x.tdiv y)
    · exact ⟨_, _, 0, fun w => div_fit x y hx hy h hc w, .inr (.inr ⟨h, hc, rfl, rfl, rfl⟩)⟩
    · exact ⟨0, 0, 3, fun w => div_large x y hx hy h hc w, .inr (.inl ⟨h, hc, rfl, rfl, rfl⟩)⟩
theorem quo_le (m n : Nat) (h : 2 ≤ n) : 2 * ((m : Int) / n) ≤ m := by
  have h1 := Int.mul_ediv_self_le (x := (m : Int)) (k := (n : Int)) (by omega)
  have h2 : 0 ≤ (m : Int) / n := Int.ediv_nonneg (by omega) (by omega)
  have h3 := Int.mul_le_mul_of_nonneg_right (show (2 : Int) ≤ n by omega) h2
  omega
theorem quo_large {x y : Int} (hx : Fit x) (h : y ≠ 0) (hc : ¬ Fit (x.tdiv y)) : y = -1 ∧ x < 0 := by
  obtain ⟨hl, hh⟩ := hx
  by_cases h1 : y = 1
  · subst h1; rw [Int.tdiv_one] at hc; exact absurd ⟨hl, hh⟩ hc
  · by_cases h2 : y = -1
    · subst h2
      refine ⟨rfl, ?_⟩
      rw [Int.tdiv_neg, Int.tdiv_one] at hc
      by_cases h3 : x < 0
      · exact h3
      · exact absurd ⟨by omega, by omega⟩ hc
    · have h4 := quo_le x.natAbs y.natAbs (by omega)
      have h5 : 0 ≤ (x.natAbs : Int) / y.natAbs := Int.ediv_nonneg (by omega) (by omega)
      rw [tdiv_abs] at hc
      generalize (x.natAbs : Int) / y.natAbs = k at *
      refine absurd ?_ hc
      split <;> exact ⟨by omega, by omega⟩
theorem rest_facts {a b : Int} (h : b ≠ 0) : (0 ≤ a → 0 ≤ a.tmod b ∧ a.tmod b ≤ a) ∧ (a ≤ 0 → a ≤ a.tmod b ∧ a.tmod b ≤ 0) ∧ (a.tmod b).natAbs < b.natAbs := by
  have h1 := Int.emod_nonneg (a.natAbs : Int) (show (b.natAbs : Int) ≠ 0 by omega)
  have h2 := Int.emod_lt_of_pos (a.natAbs : Int) (show (0 : Int) < b.natAbs by omega)
  have h3 : (a.natAbs : Int) % b.natAbs ≤ a.natAbs := by
    have := Nat.mod_le a.natAbs b.natAbs
    omega
  rw [tmod_abs]
  generalize (a.natAbs : Int) % b.natAbs = k at *
  by_cases ha : a < 0
  · simp only [ha, decide_true, if_true]; omega
  · simp only [ha, decide_false, Bool.false_eq_true, if_false]; omega
end Go.Proofs.YtigcbgehnlilaaaDoor
