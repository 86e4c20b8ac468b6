
/- The greatest number that divides both: as one contract; what divides both divides it; one more step (XMemo). -/
import Derived.Test.YtjmojddnedngaaaDoorRefY
namespace Go.Proofs.YtjmojddnedngaaaDoor
open Go.ChangeShapes Go.WideShapes Go.ChangeAt Go.RowKit
set_option linter.unusedVariables false
set_option linter.unusedSimpArgs false
section
variable {a : Act} {w w0 : World} {af : Array Edge} {pos : String} {t : TypeId} {gd : Option (Nat × Bool)}
end
def Gcds (x y g er : Int) : Prop :=
  (∀ w, Calls Tryd.prog 39 #[.agg #[.int .u64 (L0 x), .int .u64 (L1 x), .int .u64 (L2 x), .int .u64 (L3 x)], .agg #[.int .u64 (L0 y), .int .u64 (L1 y), .int .u64 (L2 y), .int .u64 (L3 y)]] w fun e w' => e = .returned (.tuple #[.agg #[.int .u64 (L0 g), .int .u64 (L1 g), .int .u64 (L2 g), .int .u64 (L3 g)], .int .i64 er]) ∧ Below w.heap.size w w') ∧ Fit g ∧
  (er = 3 ∧ g = 0 ∧ ¬ Fit ((x.natAbs).gcd y.natAbs : Int) ∨ er = 0 ∧ g = ((x.natAbs).gcd y.natAbs : Int))
theorem gcd_all (x y : Int) (hx : Fit x) (hy : Fit y) : ∃ g er, Gcds x y g er := by
  by_cases hc : Fit ((x.natAbs).gcd y.natAbs : Int)
  · exact ⟨_, 0, fun w => gcd_fit x y hx hy hc w, hc, .inr ⟨rfl, rfl⟩⟩
  · exact ⟨0, 3, fun w => gcd_large x y hx hy hc w, fit0, .inl ⟨rfl, rfl, hc⟩⟩
theorem Quo.rest {x y q r er : Int} (h : Quo x y q r er) (h0 : y ≠ 0) (he : er = 0) : r = x.tmod y := by
  rcases h.2 with ⟨h1, _⟩ | ⟨_, _, _, _, h1⟩ | ⟨_, _, _, h1, _⟩
  · exact absurd h1 h0
  · omega
  · exact h1
theorem Quo.fit {x y q r er : Int} (h : Quo x y q r er) (hy : Fit y) : Fit r := by
  rcases h.2 with ⟨_, _, h, _⟩ | ⟨_, _, _, h, _⟩ | ⟨h0, _, _, h, _⟩
  · rw [h]; exact fit0
  · rw [h]; exact fit0
  · rw [h]; exact tmod_fit hy h0
end Go.Proofs.YtjmojddnedngaaaDoor
