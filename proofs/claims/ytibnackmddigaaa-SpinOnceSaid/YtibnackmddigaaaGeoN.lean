/- merged: Plain mathematics of points of the plane: how three turn, what lies on a line, how two lines meet, the order of directions. It speaks of no program. No condition but those that each theorem names. Plain mathematics of points of the plane, second part: how two lines meet, and the order of directions. It speaks of no program. No condition but those that each theorem names. -/
import Derived.RowKit
section
namespace Go.Proofs.Ytibnackmddigaaa
def sg (z : Int) : Int := if z < 0 then -1 else if 0 < z then 1 else 0
theorem sg3 (z : Int) : (z < 0 ∧ sg z = -1) ∨ (z = 0 ∧ sg z = 0) ∨ (0 < z ∧ sg z = 1) := by unfold sg; omega
theorem sg_zero {z : Int} : sg z = 0 ↔ z = 0 := by unfold sg; omega
theorem sg_neg (z : Int) : sg (-z) = -sg z := by unfold sg; omega
theorem pp {a b : Int} (ha : 0 < a) (hb : 0 < b) : 0 < a * b := Int.mul_pos ha hb
theorem pn {a b : Int} (ha : 0 < a) (hb : b < 0) : a * b < 0 := by
  have := Int.mul_pos ha (show 0 < -b by omega)
  rw [Int.mul_neg] at this; omega
theorem np {a b : Int} (ha : a < 0) (hb : 0 < b) : a * b < 0 := by rw [Int.mul_comm]; exact pn hb ha
theorem nn {a b : Int} (ha : a < 0) (hb : b < 0) : 0 < a * b := by
  have := Int.mul_pos (show 0 < -a by omega) (show 0 < -b by omega)
  rw [Int.neg_mul_neg] at this; exact this
theorem sg_mul (a b : Int) : sg (a * b) = sg a * sg b := by
  rcases sg3 a with ⟨h, e⟩ | ⟨h, e⟩ | ⟨h, e⟩ <;> rcases sg3 b with ⟨k, f⟩ | ⟨k, f⟩ | ⟨k, f⟩ <;> rw [e, f]
  · have := nn h k; unfold sg; omega
  · subst k; simp [sg]
  · have := np h k; unfold sg; omega
  · subst h; simp [sg]
  · subst h; simp [sg]
  · subst h; simp [sg]
  · have := pn h k; unfold sg; omega
  · subst k; simp [sg]
  · have := pp h k; unfold sg; omega
theorem gt_iff_sg (z : Int) : 0 < z ↔ sg z = 1 := by unfold sg; omega
/-- twice the area of a triangle -/
def ar (a1 a2 b1 b2 c1 c2 : Int) : Int := (b1 - a1) * (c2 - a2) - (b2 - a2) * (c1 - a1)
theorem ar_swap (a1 a2 b1 b2 c1 c2 : Int) : ar b1 b2 a1 a2 c1 c2 = -ar a1 a2 b1 b2 c1 c2 := by unfold ar; grind
theorem ar_flip (a1 a2 b1 b2 c1 c2 : Int) : ar a2 a1 b2 b1 c2 c1 = -ar a1 a2 b1 b2 c1 c2 := by unfold ar; grind
/-- ahead -/
def lsB (a1 a2 b1 b2 : Int) : Bool := decide (a1 < b1) || (decide (a1 = b1) && decide (a2 < b2))
theorem lsB_iff {a1 a2 b1 b2 : Int} : lsB a1 a2 b1 b2 = true ↔ a1 < b1 ∨ a1 = b1 ∧ a2 < b2 := by unfold lsB; simp
def tn (a1 a2 b1 b2 c1 c2 : Int) : Int := sg (ar a1 a2 b1 b2 c1 c2)
/-- on the inside of a line, as the program asks -/
def OnP (p1 p2 a1 a2 b1 b2 : Int) : Prop :=
  ((a1 < p1 ∨ a1 = p1 ∧ a2 < p2) ∧ (p1 < b1 ∨ p1 = b1 ∧ p2 < b2) ∨ (b1 < p1 ∨ b1 = p1 ∧ b2 < p2) ∧ (p1 < a1 ∨ p1 = a1 ∧ p2 < a2)) ∧ ar a1 a2 b1 b2 p1 p2 = 0
/-- on a line, as the document asks -/
def InR (p1 p2 a1 a2 b1 b2 : Int) : Prop :=
  ar a1 a2 b1 b2 p1 p2 = 0 ∧ (a1 ≤ p1 ∧ p1 ≤ b1 ∨ b1 ≤ p1 ∧ p1 ≤ a1) ∧ (a2 ≤ p2 ∧ p2 ≤ b2 ∨ b2 ≤ p2 ∧ p2 ≤ a2)
def OnR (p1 p2 a1 a2 b1 b2 : Int) : Prop := InR p1 p2 a1 a2 b1 b2 ∧ ¬ (p1 = a1 ∧ p2 = a2) ∧ ¬ (p1 = b1 ∧ p2 = b2)
theorem btw {D1 D2 P1 P2 : Int} (hD : 0 < D1) (h0 : 0 ≤ P1) (h1 : P1 ≤ D1) (e : D1 * P2 = D2 * P1) : (0 ≤ P2 ∧ P2 ≤ D2) ∨ (D2 ≤ P2 ∧ P2 ≤ 0) := by
  have e2 : D1 * (D2 - P2) = D2 * (D1 - P1) := by grind
  have s1 := sg_mul D1 P2
  have s2 := sg_mul D1 (D2 - P2)
  rw [e, sg_mul] at s1
  rw [e2, sg_mul] at s2
  have hd : sg D1 = 1 := by unfold sg; omega
  rw [hd] at s1 s2
  have p1 : sg P1 = 0 ∨ sg P1 = 1 := by unfold sg; omega
  have p2 : sg (D1 - P1) = 0 ∨ sg (D1 - P1) = 1 := by unfold sg; omega
  rcases sg3 D2 with ⟨k, f⟩ | ⟨k, f⟩ | ⟨k, f⟩ <;> rw [f] at s1 s2
  · right
    have a1 : sg P2 = 0 ∨ sg P2 = -1 := by omega
    have a2 : sg (D2 - P2) = 0 ∨ sg (D2 - P2) = -1 := by omega
    unfold sg at a1 a2; omega
  · left
    have a1 : sg P2 = 0 := by omega
    have a2 : sg (D2 - P2) = 0 := by omega
    unfold sg at a1 a2; omega
  · left
    have a1 : sg P2 = 0 ∨ sg P2 = 1 := by omega
    have a2 : sg (D2 - P2) = 0 ∨ sg (D2 - P2) = 1 := by omega
    unfold sg at a1 a2; omega
theorem eq_of_mul {k x y : Int} (hk : k ≠ 0) (h : k * x = k * y) : x = y := Int.eq_of_mul_eq_mul_left hk h
theorem zero_of_mul {k x : Int} (hk : k ≠ 0) (h : k * x = 0) : x = 0 := (Int.mul_eq_zero.1 h).resolve_left hk
theorem on_half {p1 p2 a1 a2 b1 b2 : Int} (h : a1 < p1 ∨ a1 = p1 ∧ a2 < p2) (k : p1 < b1 ∨ p1 = b1 ∧ p2 < b2) (e : ar a1 a2 b1 b2 p1 p2 = 0) : (a2 ≤ p2 ∧ p2 ≤ b2 ∨ b2 ≤ p2 ∧ p2 ≤ a2) := by
  by_cases hab : a1 = b1
  · omega
  · have := btw (D1 := b1 - a1) (D2 := b2 - a2) (P1 := p1 - a1) (P2 := p2 - a2) (by omega) (by omega) (by omega) (by unfold ar at e; omega)
    omega
theorem on_eq {p1 p2 a1 a2 b1 b2 : Int} : OnP p1 p2 a1 a2 b1 b2 ↔ OnR p1 p2 a1 a2 b1 b2 := by
  constructor
  · rintro ⟨h | h, e⟩
    · have := on_half h.1 h.2 e
      exact ⟨⟨e, by omega, this⟩, by omega, by omega⟩
    · have e' : ar b1 b2 a1 a2 p1 p2 = 0 := by rw [ar_swap]; omega
      have := on_half h.1 h.2 e'
      exact ⟨⟨e, by omega, by omega⟩, by omega, by omega⟩
  · rintro ⟨⟨e, hx, hy⟩, na, nb⟩
    refine ⟨?_, e⟩
    by_cases hab : a1 = b1
    · omega
    · have z1 : p1 = a1 → p2 = a2 := fun h => by
        unfold ar at e
        subst h
        have : (b1 - p1) * (p2 - a2) = 0 := by simpa using e
        have := zero_of_mul (by omega) this
        omega
      have z2 : p1 = b1 → p2 = b2 := fun h => by
        have e' : ar b1 b2 a1 a2 p1 p2 = 0 := by rw [ar_swap]; omega
        unfold ar at e'
        subst h
        have : (a1 - p1) * (p2 - b2) = 0 := by simpa using e'
        have := zero_of_mul (by omega) this
        omega
      omega
theorem on_swap {p1 p2 a1 a2 b1 b2 : Int} : OnP p1 p2 b1 b2 a1 a2 ↔ OnP p1 p2 a1 a2 b1 b2 := by
  unfold OnP
  rw [ar_swap]
  omega
/-- c on the straight line through a and b, d off it -/
theorem line_x {a1 a2 b1 b2 c1 c2 d1 d2 : Int} (e : ar a1 a2 b1 b2 c1 c2 = 0) :
    (b1 - a1) * ar c1 c2 d1 d2 a1 a2 = (c1 - a1) * ar a1 a2 b1 b2 d1 d2 ∧ (b1 - a1) * ar c1 c2 d1 d2 b1 b2 = -((b1 - c1) * ar a1 a2 b1 b2 d1 d2) := by
  unfold ar at *
  constructor <;> grind
theorem line_y {a1 a2 b1 b2 c1 c2 d1 d2 : Int} (e : ar a1 a2 b1 b2 c1 c2 = 0) :
    (b2 - a2) * ar c1 c2 d1 d2 a1 a2 = (c2 - a2) * ar a1 a2 b1 b2 d1 d2 ∧ (b2 - a2) * ar c1 c2 d1 d2 b1 b2 = -((b2 - c2) * ar a1 a2 b1 b2 d1 d2) := by
  unfold ar at *
  constructor <;> grind
theorem both {a1 a2 b1 b2 c1 c2 d1 d2 : Int} (hcd : ¬ (c1 = d1 ∧ c2 = d2)) (h : ar c1 c2 d1 d2 a1 a2 = 0) (k : ar c1 c2 d1 d2 b1 b2 = 0) : ar a1 a2 b1 b2 c1 c2 = 0 ∧ ar a1 a2 b1 b2 d1 d2 = 0 := by
  have h1 := line_x (d1 := b1) (d2 := b2) h
  have h2 := line_y (d1 := b1) (d2 := b2) h
  rw [k] at h1 h2
  have r1 : ar a1 a2 b1 b2 c1 c2 = 0 := by
    by_cases hx : d1 = c1
    · refine zero_of_mul (k := d2 - c2) (by omega) ?_
      rw [h2.1]; exact Int.mul_zero _
    · refine zero_of_mul (k := d1 - c1) (by omega) ?_
      rw [h1.1]; exact Int.mul_zero _
  have r2 : ar a1 a2 b1 b2 d1 d2 = 0 := by
    by_cases hx : d1 = c1
    · refine zero_of_mul (k := d2 - c2) (by omega) ?_
      rw [h2.2, Int.mul_zero]; rfl
    · refine zero_of_mul (k := d1 - c1) (by omega) ?_
      rw [h1.2, Int.mul_zero]; rfl
  exact ⟨r1, r2⟩
end Go.Proofs.Ytibnackmddigaaa
end
section
namespace Go.Proofs.Ytibnackmddigaaa
/-- two lines meet, as the program asks (a isn't b, c isn't d) -/
def MeetP (a1 a2 b1 b2 c1 c2 d1 d2 : Int) : Prop :=
  (a1 = c1 ∧ a2 = c2 ∧ b1 = d1 ∧ b2 = d2) ∨ (a1 = d1 ∧ a2 = d2 ∧ b1 = c1 ∧ b2 = c2) ∨ OnP a1 a2 c1 c2 d1 d2 ∨ OnP b1 b2 c1 c2 d1 d2 ∨ OnP c1 c2 a1 a2 b1 b2 ∨ OnP d1 d2 a1 a2 b1 b2 ∨
  (sg (ar a1 a2 b1 b2 c1 c2) * sg (ar a1 a2 b1 b2 d1 d2) < 0 ∧ sg (ar c1 c2 d1 d2 a1 a2) * sg (ar c1 c2 d1 d2 b1 b2) < 0)
theorem OnP.ne {p1 p2 a1 a2 b1 b2 : Int} (h : OnP p1 p2 a1 a2 b1 b2) : ¬ (p1 = a1 ∧ p2 = a2) ∧ ¬ (p1 = b1 ∧ p2 = b2) := by
  have := (on_eq.1 h).2
  exact this
/-- in the second half of the way around -/
def Late (o1 o2 p1 p2 : Int) : Prop := p2 < o2 ∨ p2 = o2 ∧ p1 < o1
instance (o1 o2 p1 p2 : Int) : Decidable (Late o1 o2 p1 p2) := by unfold Late; infer_instance
/-- how two directions stand to each other, as the program asks -/
def rndP (o1 o2 a1 a2 b1 b2 : Int) : Int :=
  if ¬ Late o1 o2 a1 a2 ∧ Late o1 o2 b1 b2 then -1 else if Late o1 o2 a1 a2 ∧ ¬ Late o1 o2 b1 b2 then 1 else -sg (ar o1 o2 a1 a2 b1 b2)
theorem rnd_anti (o1 o2 a1 a2 b1 b2 : Int) : rndP o1 o2 b1 b2 a1 a2 = -rndP o1 o2 a1 a2 b1 b2 := by
  have : sg (ar o1 o2 b1 b2 a1 a2) = -sg (ar o1 o2 a1 a2 b1 b2) := by rw [← sg_neg]; congr 1; unfold ar; grind
  unfold rndP
  rw [this]
  generalize sg (ar o1 o2 a1 a2 b1 b2) = S
  by_cases h : Late o1 o2 a1 a2 <;> by_cases k : Late o1 o2 b1 b2 <;> simp [h, k]
theorem rnd_zero {o1 o2 a1 a2 b1 b2 : Int} (h : rndP o1 o2 a1 a2 b1 b2 = 0) : sg (ar o1 o2 a1 a2 b1 b2) = 0 := by
  unfold rndP at h
  split at h
  · omega
  · split at h <;> omega
/-- in one half of the way: what isn't behind -/
theorem half_trans {x y u v p q : Int} (hx : 0 < y ∨ y = 0 ∧ 0 < x) (hu : 0 < v ∨ v = 0 ∧ 0 < u) (hp : 0 < q ∨ q = 0 ∧ 0 < p) (h : 0 ≤ x * v - y * u) (k : 0 ≤ u * q - v * p) : 0 ≤ x * q - y * p := by
  have id1 : v * (x * q - y * p) = q * (x * v - y * u) + y * (u * q - v * p) := by grind
  rcases hu with hv | ⟨rfl, hu⟩
  · have h1 : 0 ≤ q * (x * v - y * u) := Int.mul_nonneg (by omega) h
    have h2 : 0 ≤ y * (u * q - v * p) := Int.mul_nonneg (by omega) k
    have h3 : 0 ≤ v * (x * q - y * p) := by omega
    have s := sg_mul v (x * q - y * p)
    have sv : sg v = 1 := (gt_iff_sg _).1 hv
    rw [sv] at s
    have : sg (v * (x * q - y * p)) ≠ -1 := by unfold sg; omega
    have : sg (x * q - y * p) ≠ -1 := by omega
    unfold sg at this; omega
  · have hy : y ≤ 0 := by
      have s := sg_mul y u
      have su : sg u = 1 := (gt_iff_sg _).1 hu
      rw [su] at s
      simp only [Int.mul_zero, Int.zero_sub] at h
      have : sg (y * u) ≠ 1 := by unfold sg; omega
      have : sg y ≠ 1 := by omega
      unfold sg at this; omega
    have hy0 : y = 0 := by omega
    subst hy0
    have hx0 : 0 < x := by omega
    simp only [Int.zero_mul, Int.sub_zero]
    exact Int.mul_nonneg (by omega) (by omega)
theorem rnd_trans {o1 o2 a1 a2 b1 b2 c1 c2 : Int} (ha : ¬ (a1 = o1 ∧ a2 = o2)) (hb : ¬ (b1 = o1 ∧ b2 = o2)) (hc : ¬ (c1 = o1 ∧ c2 = o2))
    (h : rndP o1 o2 a1 a2 b1 b2 ≤ 0) (k : rndP o1 o2 b1 b2 c1 c2 ≤ 0) : rndP o1 o2 a1 a2 c1 c2 ≤ 0 := by
  unfold rndP at *
  have ne : ∀ z : Int, 0 ≤ z ↔ -sg z ≤ 0 := fun z => by unfold sg; omega
  by_cases la : Late o1 o2 a1 a2 <;> by_cases lb : Late o1 o2 b1 b2 <;> by_cases lc : Late o1 o2 c1 c2 <;> simp [la, lb, lc] at h k ⊢
  · rw [show (0 ≤ sg (ar o1 o2 a1 a2 c1 c2)) = (-sg (ar o1 o2 a1 a2 c1 c2) ≤ 0) by simp, ← ne]
    rw [show (0 ≤ sg (ar o1 o2 a1 a2 b1 b2)) = (-sg (ar o1 o2 a1 a2 b1 b2) ≤ 0) by simp, ← ne] at h
    rw [show (0 ≤ sg (ar o1 o2 b1 b2 c1 c2)) = (-sg (ar o1 o2 b1 b2 c1 c2) ≤ 0) by simp, ← ne] at k
    unfold ar Late at *
    have := half_trans (x := o1 - a1) (y := o2 - a2) (u := o1 - b1) (v := o2 - b2) (p := o1 - c1) (q := o2 - c2) (by omega) (by omega) (by omega) (by grind) (by grind)
    grind
  · rw [show (0 ≤ sg (ar o1 o2 a1 a2 c1 c2)) = (-sg (ar o1 o2 a1 a2 c1 c2) ≤ 0) by simp, ← ne]
    rw [show (0 ≤ sg (ar o1 o2 a1 a2 b1 b2)) = (-sg (ar o1 o2 a1 a2 b1 b2) ≤ 0) by simp, ← ne] at h
    rw [show (0 ≤ sg (ar o1 o2 b1 b2 c1 c2)) = (-sg (ar o1 o2 b1 b2 c1 c2) ≤ 0) by simp, ← ne] at k
    unfold ar Late at *
    exact half_trans (x := a1 - o1) (y := a2 - o2) (u := b1 - o1) (v := b2 - o2) (p := c1 - o1) (q := c2 - o2) (by omega) (by omega) (by omega) h k
end Go.Proofs.Ytibnackmddigaaa
end
