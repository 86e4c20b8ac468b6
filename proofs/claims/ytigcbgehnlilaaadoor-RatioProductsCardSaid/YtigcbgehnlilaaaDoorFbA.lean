
/- Whether a number fits, as a Bool, and the number or 0. It speaks of no function. -/
import Derived.Test.YtigcbgehnlilaaaDoorRatM
namespace Go.Proofs.YtigcbgehnlilaaaDoor
set_option linter.unusedVariables false

/-- does it fit; the number, or 0 -/
def fb (z : Int) : Bool := decide (-57896044618658097711785492504343953926634992332820282019728792003956564819968 ≤ z ∧ z < 57896044618658097711785492504343953926634992332820282019728792003956564819968)
def fz (z : Int) : Int := if fb z then z else 0
theorem fb_fit (z : Int) : fb z = true ↔ Fit z :=
  ⟨fun h => by
    have := of_decide_eq_true h
    exact ⟨by omega, by omega⟩, fun h => by
    obtain ⟨h1, h2⟩ := h
    exact decide_eq_true (by omega)⟩
end Go.Proofs.YtigcbgehnlilaaaDoor
