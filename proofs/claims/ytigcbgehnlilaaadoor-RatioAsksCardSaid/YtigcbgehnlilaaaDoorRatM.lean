
/- Plain mathematics of fractions: reduced ones, what they are alike by, sums and products. It speaks of no program. No condition but those that each theorem names. -/
import Derived.Test.YtigcbgehnlilaaaDoorGeoM
import Derived.Test.YtigcbgehnlilaaaDoorNum
namespace Go.Proofs.YtigcbgehnlilaaaDoor
set_option linter.unusedVariables false
instance (z : Int) : Decidable (Fit z) := decidable_of_iff (-57896044618658097711785492504343953926634992332820282019728792003956564819968 ≤ z ∧ z ≤ 57896044618658097711785492504343953926634992332820282019728792003956564819967) ⟨fun h => ⟨h.1, h.2⟩, fun h => ⟨h.lo, h.hi⟩⟩
/-- the greatest that divides both -/
def gz (n d : Int) : Int := (((n.natAbs).gcd d.natAbs : Nat) : Int)
theorem gz_nonneg (n d : Int) : 0 ≤ gz n d := by unfold gz; omega
theorem gz_pos {n d : Int} (h : d ≠ 0) : 0 < gz n d := by
  unfold gz
  have := Nat.gcd_pos_of_pos_right n.natAbs (show 0 < d.natAbs by omega)
  omega
theorem gz_le {n d : Int} (h : 0 < d) : gz n d ≤ d := by
  unfold gz
  have := Nat.gcd_le_right n.natAbs (show 0 < d.natAbs by omega)
  omega
theorem gz_dvd_left (n d : Int) : gz n d ∣ n := by
  unfold gz
  have h := Nat.gcd_dvd_left n.natAbs d.natAbs
  exact Int.ofNat_dvd_left.2 h
theorem gz_dvd_right (n d : Int) : gz n d ∣ d := by
  unfold gz
  have h := Nat.gcd_dvd_right n.natAbs d.natAbs
  exact Int.ofNat_dvd_left.2 h
/-- right -/
def Rgt (n d : Int) : Prop := 0 < d ∧ gz n d = 1
instance (n d : Int) : Decidable (Rgt n d) := by unfold Rgt; infer_instance
theorem Rgt.pos {n d : Int} (h : Rgt n d) : 0 < d := h.1
theorem rgt_cop {p q : Int} (h : Rgt p q) : Nat.Coprime p.natAbs q.natAbs := by
  have := h.2
  unfold gz at this
  unfold Nat.Coprime
  omega
/-- two right fractions that are alike are one -/
theorem rgt_uniq {p q r s : Int} (h : Rgt p q) (k : Rgt r s) (e : p * s = r * q) : p = r ∧ q = s := by
  have e' : p.natAbs * s.natAbs = r.natAbs * q.natAbs := by rw [← Int.natAbs_mul, ← Int.natAbs_mul, e]
  have d1 : q.natAbs ∣ s.natAbs := by
    have : q.natAbs ∣ p.natAbs * s.natAbs := e' ▸ Nat.dvd_mul_left _ _
    exact (Nat.Coprime.symm (rgt_cop h)).dvd_of_dvd_mul_left this
  have d2 : s.natAbs ∣ q.natAbs := by
    have : s.natAbs ∣ r.natAbs * q.natAbs := e' ▸ Nat.dvd_mul_left _ _
    exact (Nat.Coprime.symm (rgt_cop k)).dvd_of_dvd_mul_left this
  have e2 : q.natAbs = s.natAbs := Nat.dvd_antisymm d1 d2
  have hq := h.1
  have hs := k.1
  have e3 : q = s := by omega
  subst e3
  refine ⟨?_, rfl⟩
  have : q * p = q * r := by rw [Int.mul_comm, e, Int.mul_comm]
  exact eq_of_mul (by omega) this
theorem tdiv_dvd {a b : Int} (h : b ∣ a) : a.tdiv b * b = a := Int.tdiv_mul_cancel h
/-- what Make answers -/
def Mk (n d p q er : Int) : Prop :=
  (d = 0 ∧ p = 0 ∧ q = 0 ∧ er = 4) ∨
  (d < 0 ∧ (¬ Fit (gz n d) ∨ ¬ Fit (n.tdiv (-gz n d)) ∨ ¬ Fit (d.tdiv (-gz n d))) ∧ p = 0 ∧ q = 0 ∧ er = 3) ∨
  (d ≠ 0 ∧ er = 0 ∧ Fit (gz n d) ∧ Fit p ∧ Fit q ∧ Rgt p q ∧ p * d = n * q ∧ p = n.tdiv (if d < 0 then -gz n d else gz n d) ∧ q = d.tdiv (if d < 0 then -gz n d else gz n d))
theorem Mk.fits {n d p q er : Int} (h : Mk n d p q er) : Fit p ∧ Fit q := by
  rcases h with ⟨_, rfl, rfl, _⟩ | ⟨_, _, rfl, rfl, _⟩ | ⟨_, _, _, h, k, _⟩
  · exact ⟨⟨by decide, by decide⟩, ⟨by decide, by decide⟩⟩
  · exact ⟨⟨by decide, by decide⟩, ⟨by decide, by decide⟩⟩
  · exact ⟨h, k⟩
theorem Mk.ok {n d p q er : Int} (h : Mk n d p q er) (e : er = 0) : Fit p ∧ Fit q ∧ Rgt p q ∧ p * d = n * q ∧ d ≠ 0 := by
  rcases h with ⟨_, _, _, h⟩ | ⟨_, _, _, _, h⟩ | ⟨h0, _, _, h, k, r, m, _⟩
  · omega
  · omega
  · exact ⟨h, k, r, m, h0⟩
theorem Mk.pos {n d p q er : Int} (h : Mk n d p q er) (k : 0 < d) : er = 0 := by
  rcases h with ⟨_, _, _, h⟩ | ⟨_, _, _, _, h⟩ | ⟨h0, h, _⟩ <;> omega
/-- both through what divides them -/
theorem red_rgt {n d g : Int} (hd : d ≠ 0) (hg : g = if d < 0 then -gz n d else gz n d) : Rgt (n.tdiv g) (d.tdiv g) ∧ n.tdiv g * d = n * d.tdiv g := by
  have g0 := gz_pos (n := n) hd
  have ab : g.natAbs = (n.natAbs).gcd d.natAbs := by
    have : (g.natAbs : Int) = gz n d := by subst hg; split <;> omega
    unfold gz at this; omega
  have g1 : g ≠ 0 := by subst hg; split <;> omega
  have dl : g ∣ n := by rw [← Int.natAbs_dvd_natAbs, ab]; exact Nat.gcd_dvd_left _ _
  have dr : g ∣ d := by rw [← Int.natAbs_dvd_natAbs, ab]; exact Nat.gcd_dvd_right _ _
  have en := tdiv_dvd dl
  have ed := tdiv_dvd dr
  have an : (n.tdiv g).natAbs = n.natAbs / g.natAbs := Int.natAbs_tdiv n g
  have ad : (d.tdiv g).natAbs = d.natAbs / g.natAbs := Int.natAbs_tdiv d g
  refine ⟨⟨?_, ?_⟩, ?_⟩
  · have s := sg_mul (d.tdiv g) g
    rw [ed] at s
    have sgg : sg g = sg d := by
      subst hg
      unfold sg; split <;> split <;> omega
    rw [sgg] at s
    have : sg d = 1 ∨ sg d = -1 := by unfold sg; omega
    have : sg (d.tdiv g) = 1 := by rcases this with h | h <;> rw [h] at s <;> omega
    exact (gt_iff_sg _).2 this
  · unfold gz
    rw [an, ad, ab]
    have hp : 0 < (n.natAbs).gcd d.natAbs := Nat.gcd_pos_of_pos_right _ (by omega)
    rw [Nat.gcd_div (Nat.gcd_dvd_left _ _) (Nat.gcd_dvd_right _ _), Nat.div_self hp]
    rfl
  · generalize n.tdiv g = P at *
    generalize d.tdiv g = Q at *
    rw [← en, ← ed]
    grind
theorem whole_rgt (n : Int) : Rgt n 1 := by
  refine ⟨by omega, ?_⟩
  unfold gz
  rw [show (1 : Int).natAbs = 1 from rfl, Nat.gcd_one_right]
  rfl
section
variable {a b c d p q r s : Int}
/-- what was added, taken away -/
theorem back_add (hb : 0 < b) (hd : 0 < d) (hq : 0 < q) (h : p * (b * d) = (a * d + c * b) * q) (k : r * (q * d) = (p * d - c * q) * s) : r * b = a * s := by
  have : (q * d * d) * (r * b) = (q * d * d) * (a * s) := by grind
  exact eq_of_mul (Int.ne_of_gt (Int.mul_pos (Int.mul_pos hq hd) hd)) this
theorem back_mul (hb : 0 < b) (hd : 0 < d) (hq : 0 < q) (hc : c ≠ 0) (h : p * (b * d) = (a * c) * q) (k : r * (q * c) = (p * d) * s) : r * b = a * s := by
  have : (q * c * d) * (r * b) = (q * c * d) * (a * s) := by grind
  refine eq_of_mul ?_ this
  have h1 : q * c ≠ 0 := Int.mul_ne_zero (by omega) hc
  exact Int.mul_ne_zero h1 (by omega)
theorem sg_pos_mul {x y : Int} (h : 0 < x) : sg (x * y) = sg y := by
  rw [sg_mul, (gt_iff_sg x).1 h]; omega
theorem sub_sign (hb : 0 < b) (hd : 0 < d) (hq : 0 < q) (h : p * (b * d) = (a * d - c * b) * q) : sg p = sg (a * d - c * b) := by
  have h1 := sg_pos_mul (y := p) (Int.mul_pos hb hd)
  have h2 := sg_pos_mul (y := a * d - c * b) hq
  rw [Int.mul_comm] at h1 h2
  rw [← h1, ← h2, h]
theorem le_trans_frac (hb : 0 < b) (hd : 0 < d) (hs : 0 < s) (h : a * d ≤ c * b) (k : c * s ≤ r * d) : a * s ≤ r * b := by
  have h1 := Int.mul_le_mul_of_nonneg_right h (show 0 ≤ s by omega)
  have h2 := Int.mul_le_mul_of_nonneg_right k (show 0 ≤ b by omega)
  have e1 : a * d * s = d * (a * s) := by grind
  have e2 : c * b * s = c * s * b := by grind
  have e3 : r * d * b = d * (r * b) := by grind
  rw [e1, e2] at h1
  rw [e3] at h2
  exact Int.le_of_mul_le_mul_left (Int.le_trans h1 h2) hd
end
end Go.Proofs.YtigcbgehnlilaaaDoor
