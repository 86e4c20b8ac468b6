/- merged: Plain mathematics of points of the plane: how three turn, what lies on a line, how two lines meet, the order of directions. It speaks of no program. No condition but those that each theorem names. Plain mathematics of points of the plane, second part: how two lines meet, and the order of directions. It speaks of no program. No condition but those that each theorem names. Plain mathematics of fractions: reduced ones, what they are alike by, sums and products. It speaks of no program. No condition but those that each theorem names. -/
import Derived.RowKit
import Derived.Test.YtigcbgehnlilaaaDoorNum
section
namespace Go.Proofs.YtigcbgehnlilaaaDoor
theorem pp {a b : Int} (ha : 0 < a) (hb : 0 < b) : 0 < a * b := Int.mul_pos ha hb
/-- twice the area of a triangle -/
def ar (a1 a2 b1 b2 c1 c2 : Int) : Int := (b1 - a1) * (c2 - a2) - (b2 - a2) * (c1 - a1)
theorem zero_of_mul {k x : Int} (hk : k ≠ 0) (h : k * x = 0) : x = 0 := (Int.mul_eq_zero.1 h).resolve_left hk
/-- c on the straight line through a and b, d off it -/
theorem line_x {a1 a2 b1 b2 c1 c2 d1 d2 : Int} (e : ar a1 a2 b1 b2 c1 c2 = 0) :
    (b1 - a1) * ar c1 c2 d1 d2 a1 a2 = (c1 - a1) * ar a1 a2 b1 b2 d1 d2 ∧ (b1 - a1) * ar c1 c2 d1 d2 b1 b2 = -((b1 - c1) * ar a1 a2 b1 b2 d1 d2) := by
  unfold ar at *
  constructor <;> grind
theorem line_y {a1 a2 b1 b2 c1 c2 d1 d2 : Int} (e : ar a1 a2 b1 b2 c1 c2 = 0) :
    (b2 - a2) * ar c1 c2 d1 d2 a1 a2 = (c2 - a2) * ar a1 a2 b1 b2 d1 d2 ∧ (b2 - a2) * ar c1 c2 d1 d2 b1 b2 = -((b2 - c2) * ar a1 a2 b1 b2 d1 d2) := by
  unfold ar at *
  constructor <;> grind
theorem both {a1 a2 b1 b2 c1 c2 d1 d2 : Int} (hcd : ¬ (c1 = d1 ∧ c2 = d2)) (h : ar c1 c2 d1 d2 a1 a2 = 0) (k : ar c1 c2 d1 d2 b1 b2 = 0) : ar a1 a2 b1 b2 c1 c2 = 0 ∧ ar a1 a2 b1 b2 d1 d2 = 0 := by
  have h1 := line_x (d1 := b1) (d2 := b2) h
  have h2 := line_y (d1 := b1) (d2 := b2) h
  rw [k] at h1 h2
  have r1 : ar a1 a2 b1 b2 c1 c2 = 0 := by
    by_cases hx : d1 = c1
    · refine zero_of_mul (k := d2 - c2) (by omega) ?_
      rw [h2.1]; exact Int.mul_zero _
    · refine zero_of_mul (k := d1 - c1) (by omega) ?_
      rw [h1.1]; exact Int.mul_zero _
  have r2 : ar a1 a2 b1 b2 d1 d2 = 0 := by
    by_cases hx : d1 = c1
    · refine zero_of_mul (k := d2 - c2) (by omega) ?_
      rw [h2.2, Int.mul_zero]; rfl
    · refine zero_of_mul (k := d1 - c1) (by omega) ?_
      rw [h1.2, Int.mul_zero]; rfl
  exact ⟨r1, r2⟩
end Go.Proofs.YtigcbgehnlilaaaDoor
end
section
namespace Go.Proofs.YtigcbgehnlilaaaDoor
/-- in the second half of the way around -/
def Late (o1 o2 p1 p2 : Int) : Prop := p2 < o2 ∨ p2 = o2 ∧ p1 < o1
instance (o1 o2 p1 p2 : Int) : Decidable (Late o1 o2 p1 p2) := by unfold Late; infer_instance
end Go.Proofs.YtigcbgehnlilaaaDoor
end
section
namespace Go.Proofs.YtigcbgehnlilaaaDoor
set_option linter.unusedVariables false
instance (z : Int) : Decidable (Fit z) := decidable_of_iff (-57896044618658097711785492504343953926634992332820282019728792003956564819968 ≤ z ∧ z ≤ 57896044618658097711785492504343953926634992332820282019728792003956564819967) ⟨fun h => ⟨h.1, h.2⟩, fun h => ⟨h.lo, h.hi⟩⟩
/-- the greatest that divides both -/
def gz (n d : Int) : Int := (((n.natAbs).gcd d.natAbs : Nat) : Int)
theorem gz_pos {n d : Int} (h : d ≠ 0) : 0 < gz n d := by
  unfold gz
  have := Nat.gcd_pos_of_pos_right n.natAbs (show 0 < d.natAbs by omega)
  omega
theorem gz_le {n d : Int} (h : 0 < d) : gz n d ≤ d := by
  unfold gz
  have := Nat.gcd_le_right n.natAbs (show 0 < d.natAbs by omega)
  omega
theorem gz_dvd_right (n d : Int) : gz n d ∣ d := by
  unfold gz
  have h := Nat.gcd_dvd_right n.natAbs d.natAbs
  exact Int.ofNat_dvd_left.2 h
/-- right -/
def Rgt (n d : Int) : Prop := 0 < d ∧ gz n d = 1
instance (n d : Int) : Decidable (Rgt n d) := by unfold Rgt; infer_instance
theorem Rgt.pos {n d : Int} (h : Rgt n d) : 0 < d := h.1
theorem tdiv_dvd {a b : Int} (h : b ∣ a) : a.tdiv b * b = a := Int.tdiv_mul_cancel h
/-- what Make answers -/
def Mk (n d p q er : Int) : Prop :=
  (d = 0 ∧ p = 0 ∧ q = 0 ∧ er = 4) ∨
  (d < 0 ∧ (¬ Fit (gz n d) ∨ ¬ Fit (n.tdiv (-gz n d)) ∨ ¬ Fit (d.tdiv (-gz n d))) ∧ p = 0 ∧ q = 0 ∧ er = 3) ∨
  (d ≠ 0 ∧ er = 0 ∧ Fit (gz n d) ∧ Fit p ∧ Fit q ∧ Rgt p q ∧ p * d = n * q ∧ p = n.tdiv (if d < 0 then -gz n d else gz n d) ∧ q = d.tdiv (if d < 0 then -gz n d else gz n d))
theorem Mk.fits {n d p q er : Int} (h : Mk n d p q er) : Fit p ∧ Fit q := by
  rcases h with ⟨_, rfl, rfl, _⟩ | ⟨_, _, rfl, rfl, _⟩ | ⟨_, _, _, h, k, _⟩
  · exact ⟨⟨by decide, by decide⟩, ⟨by decide, by decide⟩⟩
  · exact ⟨⟨by decide, by decide⟩, ⟨by decide, by decide⟩⟩
  · exact ⟨h, k⟩
theorem Mk.ok {n d p q er : Int} (h : Mk n d p q er) (e : er = 0) : Fit p ∧ Fit q ∧ Rgt p q ∧ p * d = n * q ∧ d ≠ 0 := by
  rcases h with ⟨_, _, _, h⟩ | ⟨_, _, _, _, h⟩ | ⟨h0, _, _, h, k, r, m, _⟩
  · omega
  · omega
  · exact ⟨h, k, r, m, h0⟩
theorem Mk.pos {n d p q er : Int} (h : Mk n d p q er) (k : 0 < d) : er = 0 := by
  rcases h with ⟨_, _, _, h⟩ | ⟨_, _, _, _, h⟩ | ⟨h0, h, _⟩ <;> omega
section
variable {a b c d p q r s : Int}
end
end Go.Proofs.YtigcbgehnlilaaaDoor
end
