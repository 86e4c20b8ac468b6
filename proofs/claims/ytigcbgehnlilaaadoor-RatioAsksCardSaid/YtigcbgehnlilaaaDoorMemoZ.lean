
/- The greatest number that divides both: as one contract; what divides both divides it; one more step (XMemo). -/
import Derived.Test.YtigcbgehnlilaaaDoorMemoY
namespace Go.Proofs.YtigcbgehnlilaaaDoor
open Go.ChangeShapes Go.WideShapes Go.ChangeAt Go.RowKit
set_option linter.unusedVariables false
set_option linter.unusedSimpArgs false
section
variable {a : Act} {w w0 : World} {af : Array Edge} {pos : String} {t : TypeId} {gd : Option (Nat × Bool)}
theorem gek {s d T : Nat} {k : IntKind} {x y : Int} {b : Bool} (h : a.tmps[s]? = some (.int k x)) (hT : Tryd.prog.underlying T = some (.int k)) (hb : decide (y ≤ x) = b) :
    Step Tryd.prog w0 { dst := some d, op := .binOp .geq T (.tmp s) (.const (.int k y)) T, type := t, pos := pos, after := af, guard := gd } (.val (.bool b)) a w :=
  .inl (by subst hb; simp [go_sem, execOp, h, hT])
end
def Gcds (x y g er : Int) : Prop :=
  (∀ w, Calls Tryd.prog 32 #[.agg #[.int .u64 (L0 x), .int .u64 (L1 x), .int .u64 (L2 x), .int .u64 (L3 x)], .agg #[.int .u64 (L0 y), .int .u64 (L1 y), .int .u64 (L2 y), .int .u64 (L3 y)]] w fun e w' => e = .returned (.tuple #[.agg #[.int .u64 (L0 g), .int .u64 (L1 g), .int .u64 (L2 g), .int .u64 (L3 g)], .int .i64 er]) ∧ Below w.heap.size w w') ∧ Fit g ∧
  (er = 3 ∧ g = 0 ∧ ¬ Fit ((x.natAbs).gcd y.natAbs : Int) ∨ er = 0 ∧ g = ((x.natAbs).gcd y.natAbs : Int))
theorem gcd_all (x y : Int) (hx : Fit x) (hy : Fit y) : ∃ g er, Gcds x y g er := by
  by_cases hc : Fit ((x.natAbs).gcd y.natAbs : Int)
  · exact ⟨_, 0, fun w => gcd_fit x y hx hy hc w, hc, .inr ⟨rfl, rfl⟩⟩
  · exact ⟨0, 3, fun w => gcd_large x y hx hy hc w, fit0, .inl ⟨rfl, rfl, hc⟩⟩
theorem gcd_zero {x y : Int} (h : ((x.natAbs).gcd y.natAbs : Int) = 0) : x = 0 ∧ y = 0 := by
  have h' : (x.natAbs).gcd y.natAbs = 0 := by omega
  obtain ⟨h1, h2⟩ := Nat.gcd_eq_zero_iff.1 h'
  omega
theorem rest_zero {x y : Int} (h : y ≠ 0) : x.tmod y = 0 ↔ y.natAbs ∣ x.natAbs := by
  rw [← Int.dvd_iff_tmod_eq_zero, Int.natAbs_dvd_natAbs]
theorem gcd_rest {x y g q r er : Int} (hg : g = ((x.natAbs).gcd y.natAbs : Int)) (h0 : g ≠ 0) (h : Quo x g q r er) : r = 0 := by
  rcases h.2 with ⟨h1, _⟩ | ⟨_, _, _, h1, _⟩ | ⟨h2, _, _, h1, _⟩
  · exact absurd h1 h0
  · exact h1
  · rw [h1, rest_zero h0, hg, Int.natAbs_natCast]; exact Nat.gcd_dvd_left _ _
theorem gcd_rest' {x y g q r er : Int} (hg : g = ((x.natAbs).gcd y.natAbs : Int)) (h0 : g ≠ 0) (h : Quo y g q r er) : r = 0 := by
  rcases h.2 with ⟨h1, _⟩ | ⟨_, _, _, h1, _⟩ | ⟨h2, _, _, h1, _⟩
  · exact absurd h1 h0
  · exact h1
  · rw [h1, rest_zero h0, hg, Int.natAbs_natCast]; exact Nat.gcd_dvd_right _ _
theorem Quo.rest {x y q r er : Int} (h : Quo x y q r er) (h0 : y ≠ 0) (he : er = 0) : r = x.tmod y := by
  rcases h.2 with ⟨h1, _⟩ | ⟨_, _, _, _, h1⟩ | ⟨_, _, _, h1, _⟩
  · exact absurd h1 h0
  · omega
  · exact h1
theorem gcd_share {x y c g q1 r1 q2 r2 q3 r3 e1 e2 e3 : Int} (hg : g = ((x.natAbs).gcd y.natAbs : Int)) (h0 : c ≠ 0) (k1 : Quo x c q1 r1 e1) (k2 : Quo y c q2 r2 e2) (k3 : Quo g c q3 r3 e3)
    (z1 : e1 = 0) (z2 : e2 = 0) (z3 : e3 = 0) (h1 : r1 = 0) (h2 : r2 = 0) : r3 = 0 := by
  have a1 := (k1.rest h0 z1).symm.trans h1
  have a2 := (k2.rest h0 z2).symm.trans h2
  rw [k3.rest h0 z3, rest_zero h0, hg, Int.natAbs_natCast]
  exact Nat.dvd_gcd ((rest_zero h0).1 a1) ((rest_zero h0).1 a2)
theorem Quo.fit {x y q r er : Int} (h : Quo x y q r er) (hy : Fit y) : Fit r := by
  rcases h.2 with ⟨_, _, h, _⟩ | ⟨_, _, _, h, _⟩ | ⟨h0, _, _, h, _⟩
  · rw [h]; exact fit0
  · rw [h]; exact fit0
  · rw [h]; exact tmod_fit hy h0
end Go.Proofs.YtigcbgehnlilaaaDoor
