
/- Fractions of small numbers: Make with a Den above 0, sums and products of whole numbers, and what At comes to. Conditions: those that each theorem names. -/
import Derived.Test.YtlifghecgpibfaaGeoE
namespace Go.Proofs.Ytlifghecgpibfaa
open Go.ChangeShapes Go.WideShapes Go.ChangeAt Go.RowKit
set_option linter.unusedVariables false
set_option linter.unusedSimpArgs false

theorem tdiv_le (n g : Int) : (n.tdiv g).natAbs ≤ n.natAbs := by
  rw [Int.natAbs_tdiv]
  exact Nat.div_le_self _ _
/-- Make answers (p, q) -/
def Mks (n d p q : Int) : Prop :=
  (∀ w, Calls Try.prog 38 #[.agg #[.int .u64 (L0 n), .int .u64 (L1 n), .int .u64 (L2 n), .int .u64 (L3 n)], .agg #[.int .u64 (L0 d), .int .u64 (L1 d), .int .u64 (L2 d), .int .u64 (L3 d)]] w fun e w' => e = .returned (.tuple #[.agg #[.int .u64 (L0 p), .int .u64 (L1 p), .int .u64 (L2 p), .int .u64 (L3 p), .int .u64 (L0 q), .int .u64 (L1 q), .int .u64 (L2 q), .int .u64 (L3 q)], .int .i64 0]) ∧ Below w.heap.size w w') ∧ Fit p ∧ Fit q ∧ Rgt p q ∧ p * d = n * q ∧ p.natAbs ≤ n.natAbs ∧ q ≤ d
theorem make_small {n d : Int} (hn : Fit n) (hd : Fit d) (h0 : 0 < d) : ∃ p q, Mks n d p q := by
  obtain ⟨g, eg, HG, hg, hx⟩ := gcd_all n d hn hd
  have g0 := gz_pos (n := n) (d := d) (by omega)
  have gl := gz_le (n := n) h0
  have fg : Fit (gz n d) := ⟨by omega, by have := hd.hi; omega⟩
  obtain ⟨rfl, rfl⟩ : eg = 0 ∧ g = gz n d := by
    rcases hx with ⟨_, _, h⟩ | h
    · exact absurd fg h
    · exact h
  have fq : ∀ x : Int, Fit x → Fit (x.tdiv (gz n d)) := fun x hx => Decidable.byContradiction fun hc => by
    have := quo_large hx (by omega) hc
    omega
  have hr := red_rgt (n := n) (d := d) (g := gz n d) (by omega) (by rw [if_neg (by omega)])
  have fm : Fit (0 - gz n d) := ⟨by have := hd.hi; omega, by have := hd.hi; omega⟩
  refine ⟨n.tdiv (gz n d), d.tdiv (gz n d), fun w => ?_, fq n hn, fq d hd, hr.1, hr.2, tdiv_le _ _, ?_⟩
  · have hs : decide (sgnZ d < 0) = false := by unfold sgnZ; simp; omega
    have := Make_pos (p := n.tdiv (gz n d)) (q := d.tdiv (gz n d)) (r1 := n.tmod (gz n d)) (r2 := d.tmod (gz n d)) hn hd fg (by omega) hs HG (fun w => neg_fit _ fg fm w) (fun w => div_fit n _ hn fg (by omega) (fq n hn) w) (fun w => div_fit d _ hd fg (by omega) (fq d hd) w) w
    exact this
  · have := tdiv_le d (gz n d)
    have := hr.1.1
    omega
theorem Mks.to {n d p q r s : Int} (h : Mks n d p q) (k : Rgt r s) (e : r * d = n * s) (hd : d ≠ 0) : p = r ∧ q = s := by
  obtain ⟨_, _, _, hr, hm, _⟩ := h
  refine rgt_uniq hr k ?_
  have : d * (p * s) = d * (r * q) := by grind
  exact eq_of_mul hd this
theorem bnd {x y a b : Int} (hx : x.natAbs ≤ a.natAbs) (hy : y.natAbs ≤ b.natAbs) : (x * y).natAbs ≤ a.natAbs * b.natAbs := by
  rw [Int.natAbs_mul]; exact Nat.mul_le_mul hx hy
theorem fit_of {z : Int} (h : z.natAbs ≤ 1000000000000000000000) : Fit z := ⟨by omega, by omega⟩
/-- the parts that At reckons, on a line from (l1, l2) to (h1, h2), at X -/
structure Atp (l1 l2 h1 h2 X p2 q2 p3 q3 p q : Int) : Prop where
  S1 : ∀ w, Calls Try.prog 37 #[.agg #[.int .u64 (L0 X), .int .u64 (L1 X), .int .u64 (L2 X), .int .u64 (L3 X), .int .u64 (L0 1), .int .u64 (L1 1), .int .u64 (L2 1), .int .u64 (L3 1)], .agg #[.int .u64 (L0 l1), .int .u64 (L1 l1), .int .u64 (L2 l1), .int .u64 (L3 l1), .int .u64 (L0 1), .int .u64 (L1 1), .int .u64 (L2 1), .int .u64 (L3 1)]] w fun e w' => e = .returned (.tuple #[.agg #[.int .u64 (L0 (X - l1)), .int .u64 (L1 (X - l1)), .int .u64 (L2 (X - l1)), .int .u64 (L3 (X - l1)), .int .u64 (L0 1), .int .u64 (L1 1), .int .u64 (L2 1), .int .u64 (L3 1)], .int .i64 0]) ∧ Below w.heap.size w w'
  S2 : ∀ w, Calls Try.prog 38 #[.agg #[.int .u64 (L0 (h2 - l2)), .int .u64 (L1 (h2 - l2)), .int .u64 (L2 (h2 - l2)), .int .u64 (L3 (h2 - l2))], .agg #[.int .u64 (L0 (h1 - l1)), .int .u64 (L1 (h1 - l1)), .int .u64 (L2 (h1 - l1)), .int .u64 (L3 (h1 - l1))]] w fun e w' => e = .returned (.tuple #[.agg #[.int .u64 (L0 p2), .int .u64 (L1 p2), .int .u64 (L2 p2), .int .u64 (L3 p2), .int .u64 (L0 q2), .int .u64 (L1 q2), .int .u64 (L2 q2), .int .u64 (L3 q2)], .int .i64 0]) ∧ Below w.heap.size w w'
  S3 : ∀ w, Calls Try.prog 39 #[.agg #[.int .u64 (L0 (X - l1)), .int .u64 (L1 (X - l1)), .int .u64 (L2 (X - l1)), .int .u64 (L3 (X - l1)), .int .u64 (L0 1), .int .u64 (L1 1), .int .u64 (L2 1), .int .u64 (L3 1)], .agg #[.int .u64 (L0 p2), .int .u64 (L1 p2), .int .u64 (L2 p2), .int .u64 (L3 p2), .int .u64 (L0 q2), .int .u64 (L1 q2), .int .u64 (L2 q2), .int .u64 (L3 q2)]] w fun e w' => e = .returned (.tuple #[.agg #[.int .u64 (L0 p3), .int .u64 (L1 p3), .int .u64 (L2 p3), .int .u64 (L3 p3), .int .u64 (L0 q3), .int .u64 (L1 q3), .int .u64 (L2 q3), .int .u64 (L3 q3)], .int .i64 0]) ∧ Below w.heap.size w w'
  S4 : ∀ w, Calls Try.prog 40 #[.agg #[.int .u64 (L0 p3), .int .u64 (L1 p3), .int .u64 (L2 p3), .int .u64 (L3 p3), .int .u64 (L0 q3), .int .u64 (L1 q3), .int .u64 (L2 q3), .int .u64 (L3 q3)], .agg #[.int .u64 (L0 l2), .int .u64 (L1 l2), .int .u64 (L2 l2), .int .u64 (L3 l2), .int .u64 (L0 1), .int .u64 (L1 1), .int .u64 (L2 1), .int .u64 (L3 1)]] w fun e w' => e = .returned (.tuple #[.agg #[.int .u64 (L0 p), .int .u64 (L1 p), .int .u64 (L2 p), .int .u64 (L3 p), .int .u64 (L0 q), .int .u64 (L1 q), .int .u64 (L2 q), .int .u64 (L3 q)], .int .i64 0]) ∧ Below w.heap.size w w'
  f1 : Fit (X - l1) ∧ Fit (1 : Int)
  f2 : Fit p2 ∧ Fit q2
  f3 : Fit p3 ∧ Fit q3
  fp : Fit p
  fq : Fit q
  rgt : Rgt p q
  eq : p * (h1 - l1) = ((X - l1) * (h2 - l2) + l2 * (h1 - l1)) * q
theorem at_parts {l1 l2 h1 h2 X : Int} (hl : Rng l1 l2) (hh : Rng h1 h2) (hX : -268435456 ≤ X ∧ X ≤ 268435456) (hlt : l1 < h1) : ∃ p2 q2 p3 q3 p q, Atp l1 l2 h1 h2 X p2 q2 p3 q3 p q := by
  obtain ⟨r1, r2, r3, r4⟩ := hl
  obtain ⟨r5, r6, r7, r8⟩ := hh
  obtain ⟨r9, r10⟩ := hX
  have fo : Fit (1 : Int) := ⟨by decide, by decide⟩
  have fX : Fit X := ⟨by omega, by omega⟩
  have fl : Fit l1 := ⟨by omega, by omega⟩
  have fl2 : Fit l2 := ⟨by omega, by omega⟩
  obtain ⟨p1, q1, M1⟩ := make_small (n := X * 1 - l1 * 1) (d := 1 * 1) ⟨by omega, by omega⟩ ⟨by decide, by decide⟩ (by decide)
  obtain ⟨rfl, rfl⟩ := M1.to (whole_rgt (X - l1)) (by omega) (by decide)
  obtain ⟨p2, q2, M2⟩ := make_small (n := h2 - l2) (d := h1 - l1) ⟨by omega, by omega⟩ ⟨by omega, by omega⟩ (by omega)
  obtain ⟨C2, fp2, fq2, g2, e2, b2, c2⟩ := M2
  have k2 := g2.1
  have m3 := bnd (x := X - l1) (y := p2) (a := 536870912) (b := 536870912) (by omega) (by omega)
  simp at m3
  have f3 : Fit ((X - l1) * p2) := fit_of (by omega)
  obtain ⟨p3, q3, M3⟩ := make_small (n := (X - l1) * p2) (d := 1 * q2) f3 ⟨by omega, by omega⟩ (by omega)
  obtain ⟨C3, fp3, fq3, g3, e3, b3, c3⟩ := M3
  have k3 := g3.1
  have m4 := bnd (x := l2) (y := q3) (a := 268435456) (b := 536870912) (by omega) (by omega)
  simp at m4
  have f4 : Fit (p3 * 1 + l2 * q3) := fit_of (by omega)
  obtain ⟨p4, q4, M4⟩ := make_small (n := p3 * 1 + l2 * q3) (d := q3 * 1) f4 ⟨by omega, by omega⟩ (by omega)
  obtain ⟨C4, fp4, fq4, g4, e4, b4, c4⟩ := M4
  have fT : Fit (X - l1) := ⟨by omega, by omega⟩
  have S1 := fun w => RSub_ok fX fo fl fo (whole_rgt X) (whole_rgt l1) (by rw [Int.mul_one]; exact fX) (by rw [Int.mul_one]; exact fl) (by rw [Int.mul_one, Int.mul_one]; exact fT) fo M1.1 w
  have S3 := fun w => RMul_ok fT fo fp2 fq2 (whole_rgt _) g2 f3 (by rw [Int.one_mul]; exact fq2) C3 w
  have S4 := fun w => RAdd_ok fp3 fq3 fl2 fo g3 (whole_rgt l2) (by rw [Int.mul_one]; exact fp3) (fit_of (by omega)) f4 (by rw [Int.mul_one]; exact fq3) C4 w
  refine ⟨p2, q2, p3, q3, p4, q4, S1, C2, S3, S4, ⟨fT, fo⟩, ⟨fp2, fq2⟩, ⟨fp3, fq3⟩, fp4, fq4, g4, ?_⟩
  have : (q3 * q2) * (p4 * (h1 - l1)) = (q3 * q2) * (((X - l1) * (h2 - l2) + l2 * (h1 - l1)) * q4) := by
    clear S1 S3 S4 C2 C3 C4 M1
    grind
  exact eq_of_mul (Int.ne_of_gt (Int.mul_pos k3 k2)) this
/-- what At comes to -/
theorem at_fwd {l1 l2 h1 h2 X p2 q2 p3 q3 p q : Int} (hl : Rng l1 l2) (hh : Rng h1 h2) (hX : -268435456 ≤ X ∧ X ≤ 268435456) (hlt : l1 < h1) (h : Atp l1 l2 h1 h2 X p2 q2 p3 q3 p q) (w : World) :
    Calls Try.prog 19 #[.agg #[.int .i64 l1, .int .i64 l2], .agg #[.int .i64 h1, .int .i64 h2], .agg #[.int .u64 (L0 X), .int .u64 (L1 X), .int .u64 (L2 X), .int .u64 (L3 X), .int .u64 (L0 1), .int .u64 (L1 1), .int .u64 (L2 1), .int .u64 (L3 1)]] w fun e w' => e = .returned (atE p q (cmV X 1 l1 1) (cmV X 1 h1 1)) ∧ Below w.heap.size w w' :=
  At_fwd hl hh hX hlt h.f1 h.f2 h.f3 h.S1 h.S2 h.S3 h.S4 w
theorem cmV_whole (X l : Int) : cmV X 1 l 1 = cmpZ X l := by
  unfold cmV
  rw [decide_eq_true (whole_rgt X), decide_eq_true (whole_rgt l)]
  simp
end Go.Proofs.Ytlifghecgpibfaa
