/- merged: The contracts of ratio's calls; written by auto_ratio.py. Conditions: numbers that a wide.Int can be; of sums and products: that all fits. Sums, differences, products of fractions, where all fits; written by auto_ratio2.py. Conditions: those that each theorem names. The contract of At of geom; written by auto_geom3.py. Conditions: points in range. Fractions of small numbers: Make with a Den above 0, sums and products of whole numbers, and what At comes to. Conditions: those that each theorem names. The document's examples, which the laws' awake asks. No condition but those that each theorem names. Turns and inner points, as Bools. No condition but those that each theorem names. Inner points against the document's. No condition but those that each theorem names. Lines that meet, as Bools. No condition but those that each theorem names. Lines that meet against the document's. No condition but those that each theorem names. -/
import Derived.Test.YthakafnecddliaaWideJ
import Derived.Test.YthakafnecddliaaOps
import Derived.Test.YthakafnecddliaaGeoC
import Derived.Test.YthakafnecddliaaGeoF
import Derived.Test.YthakafnecddliaaGeoD
import Derived.Test.YthakafnecddliaaGeoJ
section
namespace Go.Proofs.Ythakafnecddliaa
open Go.ChangeShapes Go.WideShapes Go.ChangeAt Go.RowKit
set_option linter.unusedVariables false
set_option linter.unusedSimpArgs false

theorem right_1 {n d : Int} (h : decide (sgnZ d ≤ 0) = true) : decide (Rgt n d) = false := by
  have h' := of_decide_eq_true h
  refine decide_eq_false fun k => ?_
  have := k.1
  unfold sgnZ at h'
  omega
theorem right_2 {n d g er : Int} (HG : er = 3 ∧ g = 0 ∧ ¬ Fit (gz n d) ∨ er = 0 ∧ g = gz n d) (h : (er == 0) = false) : decide (Rgt n d) = false := by
  have h' : ¬ er = 0 := by simpa using h
  refine decide_eq_false fun k => ?_
  rcases HG with ⟨_, _, h⟩ | ⟨h, _⟩
  · rw [k.2] at h; exact h ⟨by decide, by decide⟩
  · exact h' h
theorem right_3 {n d g er : Int} {b : Bool} (HG : er = 3 ∧ g = 0 ∧ ¬ Fit (gz n d) ∨ er = 0 ∧ g = gz n d) (h : decide (sgnZ d ≤ 0) = false) (k : (er == 0) = true) (l : decide (g = 1) = b) : decide (Rgt n d) = b := by
  have h' := of_decide_eq_false h
  have k' : er = 0 := by simpa using k
  have hd : 0 < d := by unfold sgnZ at h'; omega
  rcases HG with ⟨h, _⟩ | ⟨_, rfl⟩
  · omega
  · rw [← l]
    unfold Rgt
    simp [hd]
def cmV (an ad bn bd : Int) : Int := if decide (Rgt an ad) && decide (Rgt bn bd) then cmpZ (an * bd) (bn * ad) else 0
/-- what Make answers, by the errors of its steps -/
def mkE (p q eg e1 e2 : Int) : Value := if (eg == 0) then (if (e1 == 0) then (if (e2 == 0) then .tuple #[.agg #[.int .u64 (L0 p), .int .u64 (L1 p), .int .u64 (L2 p), .int .u64 (L3 p), .int .u64 (L0 q), .int .u64 (L1 q), .int .u64 (L2 q), .int .u64 (L3 q)], .int .i64 0] else .tuple #[.agg #[.int .u64 (L0 0), .int .u64 (L1 0), .int .u64 (L2 0), .int .u64 (L3 0), .int .u64 (L0 0), .int .u64 (L1 0), .int .u64 (L2 0), .int .u64 (L3 0)], .int .i64 e2]) else .tuple #[.agg #[.int .u64 (L0 0), .int .u64 (L1 0), .int .u64 (L2 0), .int .u64 (L3 0), .int .u64 (L0 0), .int .u64 (L1 0), .int .u64 (L2 0), .int .u64 (L3 0)], .int .i64 e1]) else .tuple #[.agg #[.int .u64 (L0 0), .int .u64 (L1 0), .int .u64 (L2 0), .int .u64 (L3 0), .int .u64 (L0 0), .int .u64 (L1 0), .int .u64 (L2 0), .int .u64 (L3 0)], .int .i64 eg]
end Go.Proofs.Ythakafnecddliaa
end
section
namespace Go.Proofs.Ythakafnecddliaa
open Go.ChangeShapes Go.WideShapes Go.ChangeAt Go.RowKit
set_option linter.unusedVariables false
set_option linter.unusedSimpArgs false

end Go.Proofs.Ythakafnecddliaa
end
section
namespace Go.Proofs.Ythakafnecddliaa
open Go.ChangeShapes Go.WideShapes Go.ChangeAt Go.RowKit
set_option linter.unusedVariables false
set_option linter.unusedSimpArgs false

def atE (p q c d : Int) : Value := if decide (c < 0) then .tuple #[.agg #[.int .u64 (L0 0), .int .u64 (L1 0), .int .u64 (L2 0), .int .u64 (L3 0), .int .u64 (L0 0), .int .u64 (L1 0), .int .u64 (L2 0), .int .u64 (L3 0)], .int .i64 1] else if decide (0 < d) then .tuple #[.agg #[.int .u64 (L0 0), .int .u64 (L1 0), .int .u64 (L2 0), .int .u64 (L3 0), .int .u64 (L0 0), .int .u64 (L1 0), .int .u64 (L2 0), .int .u64 (L3 0)], .int .i64 1] else .tuple #[.agg #[.int .u64 (L0 p), .int .u64 (L1 p), .int .u64 (L2 p), .int .u64 (L3 p), .int .u64 (L0 q), .int .u64 (L1 q), .int .u64 (L2 q), .int .u64 (L3 q)], .int .i64 0]
end Go.Proofs.Ythakafnecddliaa
end
section
namespace Go.Proofs.Ythakafnecddliaa
open Go.ChangeShapes Go.WideShapes Go.ChangeAt Go.RowKit
set_option linter.unusedVariables false
set_option linter.unusedSimpArgs false

theorem tdiv_le (n g : Int) : (n.tdiv g).natAbs ≤ n.natAbs := by
  rw [Int.natAbs_tdiv]
  exact Nat.div_le_self _ _
theorem bnd {x y a b : Int} (hx : x.natAbs ≤ a.natAbs) (hy : y.natAbs ≤ b.natAbs) : (x * y).natAbs ≤ a.natAbs * b.natAbs := by
  rw [Int.natAbs_mul]; exact Nat.mul_le_mul hx hy
theorem fit_of {z : Int} (h : z.natAbs ≤ 1000000000000000000000) : Fit z := ⟨by omega, by omega⟩
theorem cmV_whole (X l : Int) : cmV X 1 l 1 = cmpZ X l := by
  unfold cmV
  rw [decide_eq_true (whole_rgt X), decide_eq_true (whole_rgt l)]
  simp
end Go.Proofs.Ythakafnecddliaa
end
section
namespace Go.Proofs.Ythakafnecddliaa
open Go.ChangeShapes Go.WideShapes Go.ChangeAt Go.RowKit
set_option linter.unusedVariables false
set_option linter.unusedSimpArgs false

theorem Turn_is {a1 a2 b1 b2 c1 c2 t : Int} (hin : in3 a1 a2 b1 b2 c1 c2 = true) (h : tn a1 a2 b1 b2 c1 c2 = t) (w : World) : Calls Try.prog 71 #[.agg #[.int .i64 a1, .int .i64 a2], .agg #[.int .i64 b1, .int .i64 b2], .agg #[.int .i64 c1, .int .i64 c2]] w fun e w' => e = .returned (.int .i64 t) ∧ Bel w.heap.size w w' := h ▸ Turn_in hin w
/-- the document's examples -/
theorem ex_turn (w : World) : Calls Try.prog 71 #[.agg #[.int .i64 0, .int .i64 0], .agg #[.int .i64 4, .int .i64 0], .agg #[.int .i64 1, .int .i64 3]] w fun e w' => e = .returned (.int .i64 1) ∧ Bel w.heap.size w w' := Turn_is (by decide) (by decide) w
theorem ex_on (w : World) : Calls Try.prog 76 #[.agg #[.int .i64 2, .int .i64 1], .agg #[.int .i64 0, .int .i64 0], .agg #[.int .i64 4, .int .i64 2]] w fun e w' => e = .returned (.bool true) ∧ Bel w.heap.size w w' := On_is (by decide) w
end Go.Proofs.Ythakafnecddliaa
end
section
namespace Go.Proofs.Ythakafnecddliaa
open Go.ChangeShapes Go.WideShapes Go.ChangeAt Go.RowKit
set_option linter.unusedVariables false
set_option linter.unusedSimpArgs false

theorem Rng.flip {x y : Int} (h : Rng x y) : Rng y x := ⟨h.2.2.1, h.2.2.2, h.1, h.2.1⟩
theorem onB_iff {p1 p2 a1 a2 b1 b2 : Int} : onB p1 p2 a1 a2 b1 b2 = true ↔ (Rng p1 p2 ∧ Rng a1 a2 ∧ Rng b1 b2) ∧ OnP p1 p2 a1 a2 b1 b2 := by
  unfold onB OnP tn
  simp only [Bool.and_eq_true, Bool.or_eq_true, lsB_iff, in3_iff, beq_iff_eq, sg_zero]
  grind
theorem bool_ext {a b : Bool} (h : a = true ↔ b = true) : a = b := Bool.eq_iff_iff.2 h
theorem on_out {p1 p2 a1 a2 b1 b2 : Int} (h : in3 p1 p2 a1 a2 b1 b2 = false) : onB p1 p2 a1 a2 b1 b2 = false := by unfold onB; rw [h]; simp
theorem tn_rot {a1 a2 b1 b2 c1 c2 : Int} : tn b1 b2 c1 c2 a1 a2 = tn a1 a2 b1 b2 c1 c2 := by unfold tn; rw [ar_rot]
theorem tn_swap {a1 a2 b1 b2 c1 c2 : Int} : tn b1 b2 a1 a2 c1 c2 = -tn a1 a2 b1 b2 c1 c2 := by unfold tn; rw [ar_swap, sg_neg]
theorem tn_flip {a1 a2 b1 b2 c1 c2 : Int} : tn a2 a1 b2 b1 c2 c1 = -tn a1 a2 b1 b2 c1 c2 := by unfold tn; rw [ar_flip, sg_neg]
theorem tn_move {a1 a2 b1 b2 c1 c2 x y : Int} : tn (a1 + x) (a2 + y) (b1 + x) (b2 + y) (c1 + x) (c2 + y) = tn a1 a2 b1 b2 c1 c2 := by unfold tn; rw [ar_move]
theorem on_ac {p1 p2 a1 a2 b1 b2 : Int} : onB p1 p2 b1 b2 a1 a2 = onB p1 p2 a1 a2 b1 b2 :=
  bool_ext (by rw [onB_iff, onB_iff, on_swap]; exact ⟨fun ⟨⟨x, y, z⟩, r⟩ => ⟨⟨x, z, y⟩, r⟩, fun ⟨⟨x, y, z⟩, r⟩ => ⟨⟨x, z, y⟩, r⟩⟩)
theorem onB_move {p1 p2 a1 a2 b1 b2 x y : Int} (h : in3 p1 p2 a1 a2 b1 b2 = true) (k : in3 (p1 + x) (p2 + y) (a1 + x) (a2 + y) (b1 + x) (b2 + y) = true) : onB (p1 + x) (p2 + y) (a1 + x) (a2 + y) (b1 + x) (b2 + y) = onB p1 p2 a1 a2 b1 b2 :=
  bool_ext (by rw [onB_iff, onB_iff, on_move]; exact ⟨fun r => ⟨in3_iff.1 h, r.2⟩, fun r => ⟨in3_iff.1 k, r.2⟩⟩)
end Go.Proofs.Ythakafnecddliaa
end
section
namespace Go.Proofs.Ythakafnecddliaa
open Go.ChangeShapes Go.WideShapes Go.ChangeAt Go.RowKit
set_option linter.unusedVariables false
set_option linter.unusedSimpArgs false

theorem wiB_iff {p1 p2 a1 a2 b1 b2 : Int} : wiB p1 p2 a1 a2 b1 b2 = true ↔ InR p1 p2 a1 a2 b1 b2 := by
  unfold wiB InR bxB tn
  simp only [Bool.and_eq_true, Bool.or_eq_true, beq_iff_eq, sg_zero, decide_eq_true_eq, and_assoc]
theorem roB_iff {p1 p2 a1 a2 b1 b2 : Int} : roB p1 p2 a1 a2 b1 b2 = true ↔ OnR p1 p2 a1 a2 b1 b2 := by
  unfold roB OnR
  simp only [Bool.and_eq_true, wiB_iff, Bool.not_eq_true', decide_eq_false_iff_not, and_assoc]
theorem on_in {p1 p2 a1 a2 b1 b2 : Int} (h : in3 p1 p2 a1 a2 b1 b2 = true) : onB p1 p2 a1 a2 b1 b2 = roB p1 p2 a1 a2 b1 b2 :=
  bool_ext (by rw [onB_iff, roB_iff, on_eq]; exact ⟨fun k => k.2, fun k => ⟨in3_iff.1 h, k⟩⟩)
end Go.Proofs.Ythakafnecddliaa
end
section
namespace Go.Proofs.Ythakafnecddliaa
open Go.ChangeShapes Go.WideShapes Go.ChangeAt Go.RowKit
set_option linter.unusedVariables false
set_option linter.unusedSimpArgs false

theorem ptB_iff {a1 a2 b1 b2 c1 c2 d1 d2 : Int} : ptB a1 a2 b1 b2 c1 c2 d1 d2 = true ↔ sg (ar a1 a2 b1 b2 c1 c2) * sg (ar a1 a2 b1 b2 d1 d2) < 0 := by
  unfold ptB tn; rw [decide_eq_true_eq]
theorem mtB_iff {a1 a2 b1 b2 c1 c2 d1 d2 : Int} : mtB a1 a2 b1 b2 c1 c2 d1 d2 = true ↔ (Rng a1 a2 ∧ Rng b1 b2 ∧ Rng c1 c2 ∧ Rng d1 d2) ∧ ¬ (a1 = b1 ∧ a2 = b2) ∧ ¬ (c1 = d1 ∧ c2 = d2) ∧ MeetP a1 a2 b1 b2 c1 c2 d1 d2 := by
  unfold mtB MeetP
  simp only [Bool.and_eq_true, Bool.or_eq_true, onB_iff, in4_iff, ptB_iff, Bool.not_eq_true', decide_eq_false_iff_not, decide_eq_true_eq]
  generalize OnP a1 a2 c1 c2 d1 d2 = O1
  generalize OnP b1 b2 c1 c2 d1 d2 = O2
  generalize OnP c1 c2 a1 a2 b1 b2 = O3
  generalize OnP d1 d2 a1 a2 b1 b2 = O4
  generalize Rng a1 a2 = R1
  generalize Rng b1 b2 = R2
  generalize Rng c1 c2 = R3
  generalize Rng d1 d2 = R4
  grind
theorem mt_out1 {a1 a2 b1 b2 c1 c2 d1 d2 : Int} (h : in4 a1 a2 b1 b2 c1 c2 d1 d2 = false) : mtB a1 a2 b1 b2 c1 c2 d1 d2 = false := by unfold mtB; rw [h]; simp
theorem mt_out2 {a1 a2 b1 b2 c1 c2 d1 d2 : Int} (h : decide (a1 = b1 ∧ a2 = b2) = true) : mtB a1 a2 b1 b2 c1 c2 d1 d2 = false := by unfold mtB; rw [h]; simp
theorem mt_out3 {a1 a2 b1 b2 c1 c2 d1 d2 : Int} (h : decide (c1 = d1 ∧ c2 = d2) = true) : mtB a1 a2 b1 b2 c1 c2 d1 d2 = false := by unfold mtB; rw [h]; simp
theorem mt_ba {a1 a2 b1 b2 c1 c2 d1 d2 : Int} : mtB b1 b2 a1 a2 c1 c2 d1 d2 = mtB a1 a2 b1 b2 c1 c2 d1 d2 :=
  bool_ext (by
    rw [mtB_iff, mtB_iff, meet_ba]
    have e : (b1 = a1 ∧ b2 = a2) ↔ (a1 = b1 ∧ a2 = b2) := ⟨fun h => ⟨h.1.symm, h.2.symm⟩, fun h => ⟨h.1.symm, h.2.symm⟩⟩
    rw [e]
    exact ⟨fun ⟨⟨x, y, z, u⟩, r⟩ => ⟨⟨y, x, z, u⟩, r⟩, fun ⟨⟨x, y, z, u⟩, r⟩ => ⟨⟨y, x, z, u⟩, r⟩⟩)
theorem mt_cd {a1 a2 b1 b2 c1 c2 d1 d2 : Int} : mtB c1 c2 d1 d2 a1 a2 b1 b2 = mtB a1 a2 b1 b2 c1 c2 d1 d2 :=
  bool_ext (by
    rw [mtB_iff, mtB_iff, meet_cd]
    exact ⟨fun ⟨⟨x, y, z, u⟩, r, s, t⟩ => ⟨⟨z, u, x, y⟩, s, r, t⟩, fun ⟨⟨x, y, z, u⟩, r, s, t⟩ => ⟨⟨z, u, x, y⟩, s, r, t⟩⟩)
theorem mt_flip {a1 a2 b1 b2 c1 c2 d1 d2 : Int} : mtB a2 a1 b2 b1 c2 c1 d2 d1 = mtB a1 a2 b1 b2 c1 c2 d1 d2 :=
  bool_ext (by
    rw [mtB_iff, mtB_iff, meet_flip]
    have f : ∀ {x y : Int}, Rng y x ↔ Rng x y := ⟨fun h => h.flip, fun h => h.flip⟩
    rw [f (x := a1), f (x := b1), f (x := c1), f (x := d1), and_comm (a := a2 = b2), and_comm (a := c2 = d2)])
theorem mt_move {a1 a2 b1 b2 c1 c2 d1 d2 x y : Int} (h : in4 a1 a2 b1 b2 c1 c2 d1 d2 = true) (k : in4 (a1 + x) (a2 + y) (b1 + x) (b2 + y) (c1 + x) (c2 + y) (d1 + x) (d2 + y) = true) : mtB (a1 + x) (a2 + y) (b1 + x) (b2 + y) (c1 + x) (c2 + y) (d1 + x) (d2 + y) = mtB a1 a2 b1 b2 c1 c2 d1 d2 :=
  bool_ext (by
    rw [mtB_iff, mtB_iff, meet_move]
    have e : ∀ p q z : Int, p + z = q + z ↔ p = q := fun p q z => by omega
    rw [e, e, e, e]
    exact ⟨fun r => ⟨in4_iff.1 h, r.2⟩, fun r => ⟨in4_iff.1 k, r.2⟩⟩)
theorem Meet_is {a1 a2 b1 b2 c1 c2 d1 d2 : Int} {b : Bool} (h : mtB a1 a2 b1 b2 c1 c2 d1 d2 = b) (w : World) : Calls Try.prog 78 #[.agg #[.int .i64 a1, .int .i64 a2], .agg #[.int .i64 b1, .int .i64 b2], .agg #[.int .i64 c1, .int .i64 c2], .agg #[.int .i64 d1, .int .i64 d2]] w fun e w' => e = .returned (.bool b) ∧ Bel w.heap.size w w' := h ▸ Meet_any w
end Go.Proofs.Ythakafnecddliaa
end
section
namespace Go.Proofs.Ythakafnecddliaa
open Go.ChangeShapes Go.WideShapes Go.ChangeAt Go.RowKit
set_option linter.unusedVariables false
set_option linter.unusedSimpArgs false

theorem rmB_iff {a1 a2 b1 b2 c1 c2 d1 d2 : Int} : rmB a1 a2 b1 b2 c1 c2 d1 d2 = true ↔ MeetR a1 a2 b1 b2 c1 c2 d1 d2 := by
  unfold rmB MeetR tn
  by_cases h : sg (ar a1 a2 b1 b2 c1 c2) = 0 ∧ sg (ar a1 a2 b1 b2 d1 d2) = 0
  · rw [if_pos (by simp [h.1, h.2])]
    simp only [Bool.or_eq_true, Bool.and_eq_true, roB_iff, wiB_iff]
    constructor
    · intro k; exact .inl ⟨h.1, h.2, by grind⟩
    · rintro (k | k)
      · have := k.2.2; grind
      · exact absurd h k.1
  · rw [if_neg (by simpa using fun k => by simpa using fun l => h ⟨k, l⟩)]
    by_cases k : (a1 = c1 ∧ a2 = c2) ∨ (a1 = d1 ∧ a2 = d2) ∨ (b1 = c1 ∧ b2 = c2) ∨ (b1 = d1 ∧ b2 = d2)
    · rw [if_pos (by simp only [Bool.or_eq_true, decide_eq_true_eq]; grind)]
      constructor
      · intro l; cases l
      · rintro (l | l)
        · exact absurd ⟨l.1, l.2.1⟩ h
        · obtain ⟨_, l1, l2, l3, l4, _⟩ := l
          grind
    · rw [if_neg (by simp only [Bool.or_eq_true, decide_eq_true_eq]; grind)]
      simp only [Bool.not_eq_true', Bool.or_eq_false_iff, beq_eq_false_iff_ne]
      constructor
      · intro l
        refine .inr ⟨h, fun e => k (.inl e), fun e => k (.inr (.inl e)), fun e => k (.inr (.inr (.inl e))), fun e => k (.inr (.inr (.inr e))), l.1, l.2⟩
      · rintro (l | l)
        · exact absurd ⟨l.1, l.2.1⟩ h
        · exact ⟨l.2.2.2.2.2.1, l.2.2.2.2.2.2⟩
theorem mt_in {a1 a2 b1 b2 c1 c2 d1 d2 : Int} (h : in4 a1 a2 b1 b2 c1 c2 d1 d2 = true) (hab : decide (a1 = b1 ∧ a2 = b2) = false) (hcd : decide (c1 = d1 ∧ c2 = d2) = false) : mtB a1 a2 b1 b2 c1 c2 d1 d2 = rmB a1 a2 b1 b2 c1 c2 d1 d2 := by
  have hab' := of_decide_eq_false hab
  have hcd' := of_decide_eq_false hcd
  exact bool_ext (by rw [mtB_iff, rmB_iff, meet_eq hab' hcd']; exact ⟨fun k => k.2.2.2, fun k => ⟨in4_iff.1 h, hab', hcd', k⟩⟩)
end Go.Proofs.Ythakafnecddliaa
end
