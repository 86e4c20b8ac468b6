
/- The contracts of Turn, parts, On, Around, Meet of geom; written by auto_geom.py. Conditions: those that each theorem names. -/
import Derived.Test.YtibnackmddigaaaGeoB
import Derived.Test.YtibnackmddigaaaOps
namespace Go.Proofs.Ytibnackmddigaaa
open Go.ChangeShapes Go.WideShapes Go.ChangeAt Go.RowKit
set_option linter.unusedVariables false
set_option linter.unusedSimpArgs false

/-- a point in range -/
def Rng (x y : Int) : Prop := -268435456 ≤ x ∧ x ≤ 268435456 ∧ -268435456 ≤ y ∧ y ≤ 268435456
theorem inB_rng {x y : Int} : inB x y = true ↔ Rng x y := inB_iff
def in3 (a1 a2 b1 b2 c1 c2 : Int) : Bool := inB a1 a2 && inB b1 b2 && inB c1 c2
def in4 (a1 a2 b1 b2 c1 c2 d1 d2 : Int) : Bool := inB a1 a2 && inB b1 b2 && inB c1 c2 && inB d1 d2
theorem in3_iff {a1 a2 b1 b2 c1 c2 : Int} : in3 a1 a2 b1 b2 c1 c2 = true ↔ Rng a1 a2 ∧ Rng b1 b2 ∧ Rng c1 c2 := by unfold in3; rw [Bool.and_eq_true, Bool.and_eq_true, inB_rng, inB_rng, inB_rng, and_assoc]
theorem in4_iff {a1 a2 b1 b2 c1 c2 d1 d2 : Int} : in4 a1 a2 b1 b2 c1 c2 d1 d2 = true ↔ Rng a1 a2 ∧ Rng b1 b2 ∧ Rng c1 c2 ∧ Rng d1 d2 := by unfold in4; rw [Bool.and_eq_true, Bool.and_eq_true, Bool.and_eq_true, inB_rng, inB_rng, inB_rng, inB_rng, and_assoc, and_assoc]
theorem Less_is {a1 a2 b1 b2 : Int} {b : Bool} (h : lsB a1 a2 b1 b2 = b) (w : World) : Calls Try.prog 69 #[.agg #[.int .i64 a1, .int .i64 a2], .agg #[.int .i64 b1, .int .i64 b2]] w fun e w' => e = .returned (.bool b) ∧ Bel w.heap.size w w' := h ▸ Less_any a1 a2 b1 b2 w
def laB (o1 o2 p1 p2 : Int) : Bool := decide (Late o1 o2 p1 p2)
theorem late_is {a1 a2 b1 b2 : Int} {b : Bool} (h : laB a1 a2 b1 b2 = b) (w : World) : Calls Try.prog 94 #[.agg #[.int .i64 a1, .int .i64 a2], .agg #[.int .i64 b1, .int .i64 b2]] w fun e w' => e = .returned (.bool b) ∧ Bel w.heap.size w w' := h ▸ late_any a1 a2 b1 b2 w
theorem cmp_tn {a1 a2 b1 b2 c1 c2 : Int} : cmpZ ((b1 - a1) * (c2 - a2)) ((b2 - a2) * (c1 - a1)) = tn a1 a2 b1 b2 c1 c2 := by
  unfold tn ar cmpZ sg
  generalize (b1 - a1) * (c2 - a2) = x
  generalize (b2 - a2) * (c1 - a1) = y
  omega
theorem tn_wrap (x y : Int) : IntKind.i64.wrap (sg x * sg y) = sg x * sg y := by
  rcases sg3 x with ⟨_, e⟩ | ⟨_, e⟩ | ⟨_, e⟩ <;> rcases sg3 y with ⟨_, f⟩ | ⟨_, f⟩ | ⟨_, f⟩ <;> rw [e, f] <;> rfl
theorem tn_negw (x : Int) : IntKind.i64.wrap (-sg x) = -sg x := by
  rcases sg3 x with ⟨_, e⟩ | ⟨_, e⟩ | ⟨_, e⟩ <;> rw [e] <;> rfl
theorem allIn3 {a1 a2 b1 b2 c1 c2 : Int} {b : Bool} (h : in3 a1 a2 b1 b2 c1 c2 = b) {w : World} {g : Nat} (ho : Own w g 37 #[.int .i64 a1, .int .i64 a2, .int .i64 b1, .int .i64 b2, .int .i64 c1, .int .i64 c2]) :
    Calls Try.prog 95 #[mkv (some (3, 3)) g] w fun e w' => e = .returned (.bool b) ∧ Bel w.heap.size w w' := by
  obtain ⟨h1, _, _⟩ := ho.at_
  have hb : allB (fun i => if i = 0 then a1 else if i = 1 then b1 else c1) (fun i => if i = 0 then a2 else if i = 1 then b2 else c2) 3 = b := by rw [← h]; simp [allB, in3]
  rw [← hb]
  refine allIn_any (fun i => if i = 0 then a1 else if i = 1 then b1 else c1) (fun i => if i = 0 then a2 else if i = 1 then b2 else c2) g 3 3 (by omega) w fun i hi => ?_
  rcases (by omega : i = 0 ∨ i = 1 ∨ i = 2) with rfl | rfl | rfl <;> exact ⟨(h1 _).trans rfl, (h1 _).trans rfl⟩
theorem allIn4 {a1 a2 b1 b2 c1 c2 d1 d2 : Int} {b : Bool} (h : in4 a1 a2 b1 b2 c1 c2 d1 d2 = b) {w : World} {g : Nat} (ho : Own w g 37 #[.int .i64 a1, .int .i64 a2, .int .i64 b1, .int .i64 b2, .int .i64 c1, .int .i64 c2, .int .i64 d1, .int .i64 d2]) :
    Calls Try.prog 95 #[mkv (some (4, 4)) g] w fun e w' => e = .returned (.bool b) ∧ Bel w.heap.size w w' := by
  obtain ⟨h1, _, _⟩ := ho.at_
  have hb : allB (fun i => if i = 0 then a1 else if i = 1 then b1 else if i = 2 then c1 else d1) (fun i => if i = 0 then a2 else if i = 1 then b2 else if i = 2 then c2 else d2) 4 = b := by rw [← h]; simp [allB, in4]
  rw [← hb]
  refine allIn_any (fun i => if i = 0 then a1 else if i = 1 then b1 else if i = 2 then c1 else d1) (fun i => if i = 0 then a2 else if i = 1 then b2 else if i = 2 then c2 else d2) g 4 4 (by omega) w fun i hi => ?_
  rcases (by omega : i = 0 ∨ i = 1 ∨ i = 2 ∨ i = 3) with rfl | rfl | rfl | rfl <;> exact ⟨(h1 _).trans rfl, (h1 _).trans rfl⟩
set_option maxHeartbeats 16000000 in
set_option maxRecDepth 20000 in
theorem Turn_in {a1 a2 b1 b2 c1 c2 : Int} (hin : in3 a1 a2 b1 b2 c1 c2 = true) (w : World) : Calls Try.prog 96 #[.agg #[.int .i64 a1, .int .i64 a2], .agg #[.int .i64 b1, .int .i64 b2], .agg #[.int .i64 c1, .int .i64 c2]] w fun e w' => e = .returned (.int .i64 (tn a1 a2 b1 b2 c1 c2)) ∧ Bel w.heap.size w w' := by
  obtain ⟨⟨q1, q2, q3, q4⟩, ⟨q5, q6, q7, q8⟩, ⟨q9, q10, q11, q12⟩⟩ := in3_iff.1 hin
  have hin_ := Lib.hid hin
  clear hin
  go_enter Try.func96, Try.ntmps96
  go_upto_region 1 with fail
  go_name_world W0 hW0e
  have ow3 : Own W0 w.heap.size 37 #[.int .i64 a1, .int .i64 a2] := hW0e ▸ (by repeat' (first | (with_reducible assumption) | (with_reducible refine Own.drawnN ?_ _) | (with_reducible refine Own.drawn ?_) | (with_reducible refine Own.made_at ?_; first | rfl | (simp; done) | omega | (simp; omega)) | (with_reducible refine Own.more ?_ _) | (with_reducible refine Own.apart ?_ ?_ _ _; rotate_left; first | omega | (simp; done) | (simp; omega)) | (refine Own.put ?_ _ _)))
  have ow4 : Own W0 (w.heap.size + 1) 37 #[.int .i64 b1, .int .i64 b2] := hW0e ▸ (by repeat' (first | (with_reducible assumption) | (with_reducible refine Own.drawnN ?_ _) | (with_reducible refine Own.drawn ?_) | (with_reducible refine Own.made_at ?_; first | rfl | (simp; done) | omega | (simp; omega)) | (with_reducible refine Own.more ?_ _) | (with_reducible refine Own.apart ?_ ?_ _ _; rotate_left; first | omega | (simp; done) | (simp; omega)) | (refine Own.put ?_ _ _)))
  have ow5 : Own W0 (w.heap.size + 1 + 1) 37 #[.int .i64 c1, .int .i64 c2] := hW0e ▸ (by repeat' (first | (with_reducible assumption) | (with_reducible refine Own.drawnN ?_ _) | (with_reducible refine Own.drawn ?_) | (with_reducible refine Own.made_at ?_; first | rfl | (simp; done) | omega | (simp; omega)) | (with_reducible refine Own.more ?_ _) | (with_reducible refine Own.apart ?_ ?_ _ _; rotate_left; first | omega | (simp; done) | (simp; omega)) | (refine Own.put ?_ _ _)))
  have hW0 : Bel w.heap.size w W0 := hW0e ▸ (by repeat' (first | (with_reducible exact Bel.refl _ _) | (with_reducible assumption) | (with_reducible refine bel_drewN ?_ _) | (with_reducible refine Bel.drew ?_) | (with_reducible refine Bel.alloc ?_ ?_ _) | (with_reducible refine Bel.setCell ?_ ?_ _) | (with_reducible refine thenB ?_ (by with_reducible assumption) ?_) | (with_reducible exact Nat.le_refl _) | (with_reducible exact Nat.le_succ _) | (with_reducible exact Nat.le_succ_of_le (by with_reducible assumption)) | omega | (simp; done) | (simp; omega) | (exact Nat.le_succ _) | (exact Nat.le_succ_of_le (by with_reducible assumption))))
  clear hW0e
  have z0 := ow5.in_
  go_upto_region 1 with fail
  refine region_memo_f (B := W0.heap.size) (L := .val (.agg #[.int .i64 a1, .int .i64 a2]) :: .val (.agg #[.int .i64 b1, .int .i64 b2]) :: .val (.agg #[.int .i64 c1, .int .i64 c2]) :: .new 37 #[.int .i64 a1, .int .i64 a2, .int .i64 b1, .int .i64 b2, .int .i64 c1, .int .i64 c2] (some (3, 3)) :: .val (.bool true) :: .val (.bool false) :: []) (by kernel_rfl) (Nat.le_refl _) ((by exact trivial))
    ⟨fun a w R => ld_P (R.slot 3 rfl) (R.keep ow3 trivial) rfl rfl, fun a w R => ld_P (R.slot 4 rfl) (R.keep ow4 trivial) rfl rfl, fun a w R => ld_P (R.slot 5 rfl) (R.keep ow5 trivial) rfl rfl, fun a w R => bsP_3 (R.val 0) (R.val 1) (R.val 2), fun a w R => cl_n (enter_at Try.func95) (R.dep 3) (fun g hg => allIn3 hin_.out hg), fun a w R => notb (R.val 4), trivial⟩ (fun act_ W1 I => ?_)
  obtain ⟨gb10, ew10, lw10, ow10⟩ := I.new 3 rfl rfl rfl
  rw [I.act [(7, .agg #[.int .i64 a1, .int .i64 a2]), (8, .agg #[.int .i64 b1, .int .i64 b2]), (9, .agg #[.int .i64 c1, .int .i64 c2]), (10, .slice (some ⟨gb10, 0, none⟩) 3 3), (11, .bool true), (12, .bool false)]
    ⟨I.val 0, I.val 1, I.val 2, ew10, I.val 4, I.val 5, trivial⟩ rfl]
  change W0.heap.size ≤ gb10 at lw10
  have sW1 : W0.heap.size ≤ W1.heap.size := I.below.size
  replace ow3 := I.keep ow3 trivial
  replace ow4 := I.keep ow4 trivial
  replace ow5 := I.keep ow5 trivial
  have hW1 : Bel w.heap.size w W1 := thenB hW0 I.below hW0.size
  clear ew10
  clear I
  simp only [List.foldl_cons, List.foldl_nil, List.setIfInBounds_toArray, List.set_cons_zero, List.set_cons_succ]
  go_upto_region 3 with fail
  refine region_memo (B := W1.heap.size) (L := .val (.pointer (some ⟨w.heap.size, 0, none⟩)) :: .val (.int .i64 a1) :: .val (.pointer (some ⟨(w.heap.size + 1), 0, none⟩)) :: .val (.int .i64 b1) :: .val (.agg #[.int .u64 (L0 (b1 - a1)), .int .u64 (L1 (b1 - a1)), .int .u64 (L2 (b1 - a1)), .int .u64 (L3 (b1 - a1))]) :: .val (.pointer (some ⟨w.heap.size, 1, none⟩)) :: .val (.int .i64 a2) :: .val (.pointer (some ⟨(w.heap.size + 1 + 1), 1, none⟩)) :: .val (.int .i64 c2) :: .val (.agg #[.int .u64 (L0 (c2 - a2)), .int .u64 (L1 (c2 - a2)), .int .u64 (L2 (c2 - a2)), .int .u64 (L3 (c2 - a2))]) :: .val (.pointer (some ⟨w.heap.size, 1, none⟩)) :: .val (.int .i64 a2) :: .val (.pointer (some ⟨(w.heap.size + 1), 1, none⟩)) :: .val (.int .i64 b2) :: .val (.agg #[.int .u64 (L0 (b2 - a2)), .int .u64 (L1 (b2 - a2)), .int .u64 (L2 (b2 - a2)), .int .u64 (L3 (b2 - a2))]) :: .val (.pointer (some ⟨w.heap.size, 0, none⟩)) :: .val (.int .i64 a1) :: .val (.pointer (some ⟨(w.heap.size + 1 + 1), 0, none⟩)) :: .val (.int .i64 c1) :: .val (.agg #[.int .u64 (L0 (c1 - a1)), .int .u64 (L1 (c1 - a1)), .int .u64 (L2 (c1 - a1)), .int .u64 (L3 (c1 - a1))]) :: .val (.int .i64 (tn a1 a2 b1 b2 c1 c2)) :: .val (.int .i64 (tn a1 a2 b1 b2 c1 c2)) :: []) (by kernel_rfl) (by kernel_rfl) (Nat.le_refl _) ((by exact trivial))
    ⟨fun a w R => fa_P_0 (R.slot 3 rfl), fun a w R => ld_int (R.val 0) (R.keep ow3.drawn trivial) rfl, fun a w R => fa_P_0 (R.slot 4 rfl), fun a w R => ld_int (R.val 2) (R.keep ow4.drawn trivial) rfl, fun a w R => cl_tt (enter_at Try.func114) (R.val 1) (R.val 3) (gap_any _ _ ⟨by omega, by omega⟩ ⟨by omega, by omega⟩ _), fun a w R => fa_P_1 (R.slot 3 rfl), fun a w R => ld_int (R.val 5) (R.keep ow3.drawn trivial) rfl, fun a w R => fa_P_1 (R.slot 5 rfl), fun a w R => ld_int (R.val 7) (R.keep ow5.drawn trivial) rfl, fun a w R => cl_tt (enter_at Try.func114) (R.val 6) (R.val 8) (gap_any _ _ ⟨by omega, by omega⟩ ⟨by omega, by omega⟩ _), fun a w R => fa_P_1 (R.slot 3 rfl), fun a w R => ld_int (R.val 10) (R.keep ow3.drawn trivial) rfl, fun a w R => fa_P_1 (R.slot 4 rfl), fun a w R => ld_int (R.val 12) (R.keep ow4.drawn trivial) rfl, fun a w R => cl_tt (enter_at Try.func114) (R.val 11) (R.val 13) (gap_any _ _ ⟨by omega, by omega⟩ ⟨by omega, by omega⟩ _), fun a w R => fa_P_0 (R.slot 3 rfl), fun a w R => ld_int (R.val 15) (R.keep ow3.drawn trivial) rfl, fun a w R => fa_P_0 (R.slot 5 rfl), fun a w R => ld_int (R.val 17) (R.keep ow5.drawn trivial) rfl, fun a w R => cl_tt (enter_at Try.func114) (R.val 16) (R.val 18) (gap_any _ _ ⟨by omega, by omega⟩ ⟨by omega, by omega⟩ _), fun a w R => cl_tttt (enter_at Try.func113) (R.val 4) (R.val 9) (R.val 14) (R.val 19) (Above_walk _ _ _ _ ⟨by omega, by omega⟩ ⟨by omega, by omega⟩ ⟨by omega, by omega⟩ ⟨by omega, by omega⟩ _ cmp_tn _), fun a w R => asg (R.val 20), trivial⟩ (fun act_ W2 I => ?_)
  rw [I.act [(13, .pointer (some ⟨w.heap.size, 0, none⟩)), (14, .int .i64 a1), (15, .pointer (some ⟨(w.heap.size + 1), 0, none⟩)), (16, .int .i64 b1), (17, .agg #[.int .u64 (L0 (b1 - a1)), .int .u64 (L1 (b1 - a1)), .int .u64 (L2 (b1 - a1)), .int .u64 (L3 (b1 - a1))]), (18, .pointer (some ⟨w.heap.size, 1, none⟩)), (19, .int .i64 a2), (20, .pointer (some ⟨(w.heap.size + 1 + 1), 1, none⟩)), (21, .int .i64 c2), (22, .agg #[.int .u64 (L0 (c2 - a2)), .int .u64 (L1 (c2 - a2)), .int .u64 (L2 (c2 - a2)), .int .u64 (L3 (c2 - a2))]), (23, .pointer (some ⟨w.heap.size, 1, none⟩)), (24, .int .i64 a2), (25, .pointer (some ⟨(w.heap.size + 1), 1, none⟩)), (26, .int .i64 b2), (27, .agg #[.int .u64 (L0 (b2 - a2)), .int .u64 (L1 (b2 - a2)), .int .u64 (L2 (b2 - a2)), .int .u64 (L3 (b2 - a2))]), (28, .pointer (some ⟨w.heap.size, 0, none⟩)), (29, .int .i64 a1), (30, .pointer (some ⟨(w.heap.size + 1 + 1), 0, none⟩)), (31, .int .i64 c1), (32, .agg #[.int .u64 (L0 (c1 - a1)), .int .u64 (L1 (c1 - a1)), .int .u64 (L2 (c1 - a1)), .int .u64 (L3 (c1 - a1))]), (33, .int .i64 (tn a1 a2 b1 b2 c1 c2)), (6, .int .i64 (tn a1 a2 b1 b2 c1 c2))]
    ⟨I.val 0, I.val 1, I.val 2, I.val 3, I.val 4, I.val 5, I.val 6, I.val 7, I.val 8, I.val 9, I.val 10, I.val 11, I.val 12, I.val 13, I.val 14, I.val 15, I.val 16, I.val 17, I.val 18, I.val 19, I.val 20, I.val 21, trivial⟩ rfl]
  have sW2 : W1.heap.size ≤ W2.heap.size := I.below.size
  replace ow3 := I.keep ow3.drawn trivial
  replace ow4 := I.keep ow4.drawn trivial
  replace ow5 := I.keep ow5.drawn trivial
  replace ow10 := I.keep ow10.drawn trivial
  have hW2 : Bel w.heap.size w W2 := thenB hW1.drew I.below hW1.size
  clear I
  simp only [List.foldl_cons, List.foldl_nil, List.setIfInBounds_toArray, List.set_cons_zero, List.set_cons_succ]
  clear ow3 ow4 ow5 ow10
  go_wp2
  try simp only [setCell_drawn]
  refine bodyPost_ret (by first | (simp [results, Try.results96, go_sem]; done) | (simp [results, Try.results96, go_sem]; rfl)) rfl ⟨?_, hW2⟩
  rfl
def onB (p1 p2 a1 a2 b1 b2 : Int) : Bool := ((lsB a1 a2 p1 p2 && lsB p1 p2 b1 b2) || (lsB b1 b2 p1 p2 && lsB p1 p2 a1 a2)) && in3 p1 p2 a1 a2 b1 b2 && (tn a1 a2 b1 b2 p1 p2 == 0)
set_option maxHeartbeats 16000000 in
set_option maxRecDepth 20000 in
theorem On_any {p1 p2 a1 a2 b1 b2 : Int}  (w : World) : Calls Try.prog 99 #[.agg #[.int .i64 p1, .int .i64 p2], .agg #[.int .i64 a1, .int .i64 a2], .agg #[.int .i64 b1, .int .i64 b2]] w fun e w' => e = .returned (.bool (onB p1 p2 a1 a2 b1 b2)) ∧ Bel w.heap.size w w' := by
  go_enter Try.func99, Try.ntmps99
  go_upto_region 1 with fail
  go_name_world W0 hW0e
  have ow3 : Own W0 w.heap.size 37 #[.int .i64 p1, .int .i64 p2] := hW0e ▸ (by repeat' (first | (with_reducible assumption) | (with_reducible refine Own.drawnN ?_ _) | (with_reducible refine Own.drawn ?_) | (with_reducible refine Own.made_at ?_; first | rfl | (simp; done) | omega | (simp; omega)) | (with_reducible refine Own.more ?_ _) | (with_reducible refine Own.apart ?_ ?_ _ _; rotate_left; first | omega | (simp; done) | (simp; omega)) | (refine Own.put ?_ _ _)))
  have ow4 : Own W0 (w.heap.size + 1) 37 #[.int .i64 a1, .int .i64 a2] := hW0e ▸ (by repeat' (first | (with_reducible assumption) | (with_reducible refine Own.drawnN ?_ _) | (with_reducible refine Own.drawn ?_) | (with_reducible refine Own.made_at ?_; first | rfl | (simp; done) | omega | (simp; omega)) | (with_reducible refine Own.more ?_ _) | (with_reducible refine Own.apart ?_ ?_ _ _; rotate_left; first | omega | (simp; done) | (simp; omega)) | (refine Own.put ?_ _ _)))
  have ow5 : Own W0 (w.heap.size + 1 + 1) 37 #[.int .i64 b1, .int .i64 b2] := hW0e ▸ (by repeat' (first | (with_reducible assumption) | (with_reducible refine Own.drawnN ?_ _) | (with_reducible refine Own.drawn ?_) | (with_reducible refine Own.made_at ?_; first | rfl | (simp; done) | omega | (simp; omega)) | (with_reducible refine Own.more ?_ _) | (with_reducible refine Own.apart ?_ ?_ _ _; rotate_left; first | omega | (simp; done) | (simp; omega)) | (refine Own.put ?_ _ _)))
  have hW0 : Bel w.heap.size w W0 := hW0e ▸ (by repeat' (first | (with_reducible exact Bel.refl _ _) | (with_reducible assumption) | (with_reducible refine bel_drewN ?_ _) | (with_reducible refine Bel.drew ?_) | (with_reducible refine Bel.alloc ?_ ?_ _) | (with_reducible refine Bel.setCell ?_ ?_ _) | (with_reducible refine thenB ?_ (by with_reducible assumption) ?_) | (with_reducible exact Nat.le_refl _) | (with_reducible exact Nat.le_succ _) | (with_reducible exact Nat.le_succ_of_le (by with_reducible assumption)) | omega | (simp; done) | (simp; omega) | (exact Nat.le_succ _) | (exact Nat.le_succ_of_le (by with_reducible assumption))))
  clear hW0e
  have z0 := ow5.in_
  rcases Bool.eq_false_or_eq_true (lsB a1 a2 p1 p2) with t1 | t1
  · have t1_ := Lib.hid t1
    clear t1
    rcases Bool.eq_false_or_eq_true (lsB p1 p2 b1 b2) with t2 | t2
    · have t2_ := Lib.hid t2
      clear t2
      go_upto_region 1 with fail
      refine region_memo_f (B := W0.heap.size) (L := .val (.agg #[.int .i64 a1, .int .i64 a2]) :: .val (.agg #[.int .i64 p1, .int .i64 p2]) :: .val (.bool true) :: .val (.bool true) :: .val (.agg #[.int .i64 p1, .int .i64 p2]) :: .val (.agg #[.int .i64 b1, .int .i64 b2]) :: .val (.bool true) :: .val (.bool true) :: .val (.bool true) :: .skip :: .skip :: .skip :: .skip :: .skip :: .skip :: .skip :: .skip :: .val (.bool true) :: .val (.bool true) :: []) (by kernel_rfl) (Nat.le_refl _) ((by exact trivial))
        ⟨fun a w R => ld_P (R.slot 4 rfl) (R.keep ow4 trivial) rfl rfl, fun a w R => ld_P (R.slot 3 rfl) (R.keep ow3 trivial) rfl rfl, fun a w R => cl_tt (enter_at Try.func69) (R.val 0) (R.val 1) (Less_is t1_.out _), fun a w R => mv (R.val 2), fun a w R => ld_P (R.slot 3 rfl) (R.keep ow3 trivial) rfl rfl, fun a w R => ld_P (R.slot 5 rfl) (R.keep ow5 trivial) rfl rfl, fun a w R => cl_tt (enter_at Try.func69) (R.val 4) (R.val 5) (Less_is t2_.out _), fun a w R => pickt (R.val 3) (R.val 6), fun a w R => mv (R.val 7), fun a w R => True.intro, fun a w R => True.intro, fun a w R => True.intro, fun a w R => True.intro, fun a w R => True.intro, fun a w R => True.intro, fun a w R => True.intro, fun a w R => True.intro, fun a w R => picko (R.val 8) (R.goneS 16), fun a w R => asg (R.val 17), trivial⟩ (fun act_ W1 I => ?_)
      rw [I.act [(8, .agg #[.int .i64 a1, .int .i64 a2]), (9, .agg #[.int .i64 p1, .int .i64 p2]), (10, .bool true), (11, .bool true), (12, .agg #[.int .i64 p1, .int .i64 p2]), (13, .agg #[.int .i64 b1, .int .i64 b2]), (14, .bool true), (15, .bool true), (16, .bool true), (17, undef), (18, undef), (19, undef), (20, undef), (21, undef), (22, undef), (23, undef), (24, undef), (25, .bool true), (7, .bool true)]
        ⟨I.val 0, I.val 1, I.val 2, I.val 3, I.val 4, I.val 5, I.val 6, I.val 7, I.val 8, I.gone 9, I.gone 10, I.gone 11, I.gone 12, I.gone 13, I.gone 14, I.gone 15, I.gone 16, I.val 17, I.val 18, trivial⟩ rfl]
      have sW1 : W0.heap.size ≤ W1.heap.size := I.below.size
      replace ow3 := I.keep ow3 trivial
      replace ow4 := I.keep ow4 trivial
      replace ow5 := I.keep ow5 trivial
      have hW1 : Bel w.heap.size w W1 := thenB hW0 I.below hW0.size
      clear I
      simp only [List.foldl_cons, List.foldl_nil, List.setIfInBounds_toArray, List.set_cons_zero, List.set_cons_succ]
      rcases Bool.eq_false_or_eq_true (in3 p1 p2 a1 a2 b1 b2) with t3 | t3
      · have t3_ := Lib.hid t3
        clear t3
        rcases Bool.eq_false_or_eq_true (((tn a1 a2 b1 b2 p1 p2) == 0)) with t4 | t4
        · have t4_ := Lib.hid t4
          clear t4
          go_upto_region 2 with fail
          refine region_memo_f (B := W1.heap.size) (L := .val (.bool true) :: .val (.bool true) :: .val (.agg #[.int .i64 p1, .int .i64 p2]) :: .val (.agg #[.int .i64 a1, .int .i64 a2]) :: .val (.agg #[.int .i64 b1, .int .i64 b2]) :: .new 37 #[.int .i64 p1, .int .i64 p2, .int .i64 a1, .int .i64 a2, .int .i64 b1, .int .i64 b2] (some (3, 3)) :: .val (.bool true) :: .val (.bool true) :: .val (.bool true) :: .val (.agg #[.int .i64 a1, .int .i64 a2]) :: .val (.agg #[.int .i64 b1, .int .i64 b2]) :: .val (.agg #[.int .i64 p1, .int .i64 p2]) :: .val (.int .i64 (tn a1 a2 b1 b2 p1 p2)) :: .val (.bool true) :: .val (.bool true) :: .val (.bool true) :: []) (by kernel_rfl) (Nat.le_refl _) ((by exact trivial))
            ⟨fun a w R => mv (R.slot 7 rfl), fun a w R => mv (R.val 0), fun a w R => ld_P (R.slot 3 rfl) (R.keep ow3 trivial) rfl rfl, fun a w R => ld_P (R.slot 4 rfl) (R.keep ow4 trivial) rfl rfl, fun a w R => ld_P (R.slot 5 rfl) (R.keep ow5 trivial) rfl rfl, fun a w R => bsP_3 (R.val 2) (R.val 3) (R.val 4), fun a w R => cl_n (enter_at Try.func95) (R.dep 5) (fun g hg => allIn3 t3_.out hg), fun a w R => pickt (R.val 1) (R.val 6), fun a w R => mv (R.val 7), fun a w R => ld_P (R.slot 4 rfl) (R.keep ow4 trivial) rfl rfl, fun a w R => ld_P (R.slot 5 rfl) (R.keep ow5 trivial) rfl rfl, fun a w R => ld_P (R.slot 3 rfl) (R.keep ow3 trivial) rfl rfl, fun a w R => cl_ttt (enter_at Try.func96) (R.val 9) (R.val 10) (R.val 11) (Turn_in (in3_iff.2 ⟨(in3_iff.1 t3_.out).2.1, (in3_iff.1 t3_.out).2.2, (in3_iff.1 t3_.out).1⟩) _), fun a w R => c_eql_tk (R.val 12) (Try.underlying3) t4_.out, fun a w R => pickt (R.val 8) (R.val 13), fun a w R => asg (R.val 14), trivial⟩ (fun act_ W2 I => ?_)
          obtain ⟨gb31, ew31, lw31, ow31⟩ := I.new 5 rfl rfl rfl
          rw [I.act [(26, .bool true), (27, .bool true), (28, .agg #[.int .i64 p1, .int .i64 p2]), (29, .agg #[.int .i64 a1, .int .i64 a2]), (30, .agg #[.int .i64 b1, .int .i64 b2]), (31, .slice (some ⟨gb31, 0, none⟩) 3 3), (32, .bool true), (33, .bool true), (34, .bool true), (35, .agg #[.int .i64 a1, .int .i64 a2]), (36, .agg #[.int .i64 b1, .int .i64 b2]), (37, .agg #[.int .i64 p1, .int .i64 p2]), (38, .int .i64 (tn a1 a2 b1 b2 p1 p2)), (39, .bool true), (40, .bool true), (6, .bool true)]
            ⟨I.val 0, I.val 1, I.val 2, I.val 3, I.val 4, ew31, I.val 6, I.val 7, I.val 8, I.val 9, I.val 10, I.val 11, I.val 12, I.val 13, I.val 14, I.val 15, trivial⟩ rfl]
          change W1.heap.size ≤ gb31 at lw31
          have sW2 : W1.heap.size ≤ W2.heap.size := I.below.size
          replace ow3 := I.keep ow3 trivial
          replace ow4 := I.keep ow4 trivial
          replace ow5 := I.keep ow5 trivial
          have hW2 : Bel w.heap.size w W2 := thenB hW1 I.below hW1.size
          clear ew31
          clear I
          simp only [List.foldl_cons, List.foldl_nil, List.setIfInBounds_toArray, List.set_cons_zero, List.set_cons_succ]
          clear ow3 ow4 ow5 ow31
          go_wp2
          try simp only [setCell_drawn]
          refine bodyPost_ret (by first | (simp [results, Try.results99, go_sem]; done) | (simp [results, Try.results99, go_sem]; rfl)) rfl ⟨?_, hW2⟩
          refine retb_eq ?_; simp [onB, t1_.out, t2_.out, t3_.out, t4_.out]
        · have t4_ := Lib.hid t4
          clear t4
          go_upto_region 2 with fail
          refine region_memo_f (B := W1.heap.size) (L := .val (.bool true) :: .val (.bool true) :: .val (.agg #[.int .i64 p1, .int .i64 p2]) :: .val (.agg #[.int .i64 a1, .int .i64 a2]) :: .val (.agg #[.int .i64 b1, .int .i64 b2]) :: .new 37 #[.int .i64 p1, .int .i64 p2, .int .i64 a1, .int .i64 a2, .int .i64 b1, .int .i64 b2] (some (3, 3)) :: .val (.bool true) :: .val (.bool true) :: .val (.bool true) :: .val (.agg #[.int .i64 a1, .int .i64 a2]) :: .val (.agg #[.int .i64 b1, .int .i64 b2]) :: .val (.agg #[.int .i64 p1, .int .i64 p2]) :: .val (.int .i64 (tn a1 a2 b1 b2 p1 p2)) :: .val (.bool false) :: .val (.bool false) :: .val (.bool false) :: []) (by kernel_rfl) (Nat.le_refl _) ((by exact trivial))
            ⟨fun a w R => mv (R.slot 7 rfl), fun a w R => mv (R.val 0), fun a w R => ld_P (R.slot 3 rfl) (R.keep ow3 trivial) rfl rfl, fun a w R => ld_P (R.slot 4 rfl) (R.keep ow4 trivial) rfl rfl, fun a w R => ld_P (R.slot 5 rfl) (R.keep ow5 trivial) rfl rfl, fun a w R => bsP_3 (R.val 2) (R.val 3) (R.val 4), fun a w R => cl_n (enter_at Try.func95) (R.dep 5) (fun g hg => allIn3 t3_.out hg), fun a w R => pickt (R.val 1) (R.val 6), fun a w R => mv (R.val 7), fun a w R => ld_P (R.slot 4 rfl) (R.keep ow4 trivial) rfl rfl, fun a w R => ld_P (R.slot 5 rfl) (R.keep ow5 trivial) rfl rfl, fun a w R => ld_P (R.slot 3 rfl) (R.keep ow3 trivial) rfl rfl, fun a w R => cl_ttt (enter_at Try.func96) (R.val 9) (R.val 10) (R.val 11) (Turn_in (in3_iff.2 ⟨(in3_iff.1 t3_.out).2.1, (in3_iff.1 t3_.out).2.2, (in3_iff.1 t3_.out).1⟩) _), fun a w R => c_eql_tk (R.val 12) (Try.underlying3) t4_.out, fun a w R => pickt (R.val 8) (R.val 13), fun a w R => asg (R.val 14), trivial⟩ (fun act_ W2 I => ?_)
          obtain ⟨gb31, ew31, lw31, ow31⟩ := I.new 5 rfl rfl rfl
          rw [I.act [(26, .bool true), (27, .bool true), (28, .agg #[.int .i64 p1, .int .i64 p2]), (29, .agg #[.int .i64 a1, .int .i64 a2]), (30, .agg #[.int .i64 b1, .int .i64 b2]), (31, .slice (some ⟨gb31, 0, none⟩) 3 3), (32, .bool true), (33, .bool true), (34, .bool true), (35, .agg #[.int .i64 a1, .int .i64 a2]), (36, .agg #[.int .i64 b1, .int .i64 b2]), (37, .agg #[.int .i64 p1, .int .i64 p2]), (38, .int .i64 (tn a1 a2 b1 b2 p1 p2)), (39, .bool false), (40, .bool false), (6, .bool false)]
            ⟨I.val 0, I.val 1, I.val 2, I.val 3, I.val 4, ew31, I.val 6, I.val 7, I.val 8, I.val 9, I.val 10, I.val 11, I.val 12, I.val 13, I.val 14, I.val 15, trivial⟩ rfl]
          change W1.heap.size ≤ gb31 at lw31
          have sW2 : W1.heap.size ≤ W2.heap.size := I.below.size
          replace ow3 := I.keep ow3 trivial
          replace ow4 := I.keep ow4 trivial
          replace ow5 := I.keep ow5 trivial
          have hW2 : Bel w.heap.size w W2 := thenB hW1 I.below hW1.size
          clear ew31
          clear I
          simp only [List.foldl_cons, List.foldl_nil, List.setIfInBounds_toArray, List.set_cons_zero, List.set_cons_succ]
          clear ow3 ow4 ow5 ow31
          go_wp2
          try simp only [setCell_drawn]
          refine bodyPost_ret (by first | (simp [results, Try.results99, go_sem]; done) | (simp [results, Try.results99, go_sem]; rfl)) rfl ⟨?_, hW2⟩
          refine retb_eq ?_; simp [onB, t1_.out, t2_.out, t3_.out, t4_.out]
      · have t3_ := Lib.hid t3
        clear t3
        go_upto_region 2 with fail
        refine region_memo_f (B := W1.heap.size) (L := .val (.bool true) :: .val (.bool true) :: .val (.agg #[.int .i64 p1, .int .i64 p2]) :: .val (.agg #[.int .i64 a1, .int .i64 a2]) :: .val (.agg #[.int .i64 b1, .int .i64 b2]) :: .new 37 #[.int .i64 p1, .int .i64 p2, .int .i64 a1, .int .i64 a2, .int .i64 b1, .int .i64 b2] (some (3, 3)) :: .val (.bool false) :: .val (.bool false) :: .val (.bool false) :: .skip :: .skip :: .skip :: .skip :: .skip :: .val (.bool false) :: .val (.bool false) :: []) (by kernel_rfl) (Nat.le_refl _) ((by exact trivial))
          ⟨fun a w R => mv (R.slot 7 rfl), fun a w R => mv (R.val 0), fun a w R => ld_P (R.slot 3 rfl) (R.keep ow3 trivial) rfl rfl, fun a w R => ld_P (R.slot 4 rfl) (R.keep ow4 trivial) rfl rfl, fun a w R => ld_P (R.slot 5 rfl) (R.keep ow5 trivial) rfl rfl, fun a w R => bsP_3 (R.val 2) (R.val 3) (R.val 4), fun a w R => cl_n (enter_at Try.func95) (R.dep 5) (fun g hg => allIn3 t3_.out hg), fun a w R => pickt (R.val 1) (R.val 6), fun a w R => mv (R.val 7), fun a w R => True.intro, fun a w R => True.intro, fun a w R => True.intro, fun a w R => True.intro, fun a w R => True.intro, fun a w R => pickf (R.val 8) (R.goneS 13), fun a w R => asg (R.val 14), trivial⟩ (fun act_ W2 I => ?_)
        obtain ⟨gb31, ew31, lw31, ow31⟩ := I.new 5 rfl rfl rfl
        rw [I.act [(26, .bool true), (27, .bool true), (28, .agg #[.int .i64 p1, .int .i64 p2]), (29, .agg #[.int .i64 a1, .int .i64 a2]), (30, .agg #[.int .i64 b1, .int .i64 b2]), (31, .slice (some ⟨gb31, 0, none⟩) 3 3), (32, .bool false), (33, .bool false), (34, .bool false), (35, undef), (36, undef), (37, undef), (38, undef), (39, undef), (40, .bool false), (6, .bool false)]
          ⟨I.val 0, I.val 1, I.val 2, I.val 3, I.val 4, ew31, I.val 6, I.val 7, I.val 8, I.gone 9, I.gone 10, I.gone 11, I.gone 12, I.gone 13, I.val 14, I.val 15, trivial⟩ rfl]
        change W1.heap.size ≤ gb31 at lw31
        have sW2 : W1.heap.size ≤ W2.heap.size := I.below.size
        replace ow3 := I.keep ow3 trivial
        replace ow4 := I.keep ow4 trivial
        replace ow5 := I.keep ow5 trivial
        have hW2 : Bel w.heap.size w W2 := thenB hW1 I.below hW1.size
        clear ew31
        clear I
        simp only [List.foldl_cons, List.foldl_nil, List.setIfInBounds_toArray, List.set_cons_zero, List.set_cons_succ]
        clear ow3 ow4 ow5 ow31
        go_wp2
        try simp only [setCell_drawn]
        refine bodyPost_ret (by first | (simp [results, Try.results99, go_sem]; done) | (simp [results, Try.results99, go_sem]; rfl)) rfl ⟨?_, hW2⟩
        refine retb_eq ?_; simp [onB, t1_.out, t2_.out, t3_.out]
    · have t2_ := Lib.hid t2
      clear t2
      rcases Bool.eq_false_or_eq_true (lsB b1 b2 p1 p2) with t5 | t5
      · have t5_ := Lib.hid t5
        clear t5
        rcases Bool.eq_false_or_eq_true (lsB p1 p2 a1 a2) with t6 | t6
        · have t6_ := Lib.hid t6
          clear t6
          go_upto_region 1 with fail
          refine region_memo_f (B := W0.heap.size) (L := .val (.agg #[.int .i64 a1, .int .i64 a2]) :: .val (.agg #[.int .i64 p1, .int .i64 p2]) :: .val (.bool true) :: .val (.bool true) :: .val (.agg #[.int .i64 p1, .int .i64 p2]) :: .val (.agg #[.int .i64 b1, .int .i64 b2]) :: .val (.bool false) :: .val (.bool false) :: .val (.bool false) :: .val (.agg #[.int .i64 b1, .int .i64 b2]) :: .val (.agg #[.int .i64 p1, .int .i64 p2]) :: .val (.bool true) :: .val (.bool true) :: .val (.agg #[.int .i64 p1, .int .i64 p2]) :: .val (.agg #[.int .i64 a1, .int .i64 a2]) :: .val (.bool true) :: .val (.bool true) :: .val (.bool true) :: .val (.bool true) :: []) (by kernel_rfl) (Nat.le_refl _) ((by exact trivial))
            ⟨fun a w R => ld_P (R.slot 4 rfl) (R.keep ow4 trivial) rfl rfl, fun a w R => ld_P (R.slot 3 rfl) (R.keep ow3 trivial) rfl rfl, fun a w R => cl_tt (enter_at Try.func69) (R.val 0) (R.val 1) (Less_is t1_.out _), fun a w R => mv (R.val 2), fun a w R => ld_P (R.slot 3 rfl) (R.keep ow3 trivial) rfl rfl, fun a w R => ld_P (R.slot 5 rfl) (R.keep ow5 trivial) rfl rfl, fun a w R => cl_tt (enter_at Try.func69) (R.val 4) (R.val 5) (Less_is t2_.out _), fun a w R => pickt (R.val 3) (R.val 6), fun a w R => mv (R.val 7), fun a w R => ld_P (R.slot 5 rfl) (R.keep ow5 trivial) rfl rfl, fun a w R => ld_P (R.slot 3 rfl) (R.keep ow3 trivial) rfl rfl, fun a w R => cl_tt (enter_at Try.func69) (R.val 9) (R.val 10) (Less_is t5_.out _), fun a w R => mv (R.val 11), fun a w R => ld_P (R.slot 3 rfl) (R.keep ow3 trivial) rfl rfl, fun a w R => ld_P (R.slot 4 rfl) (R.keep ow4 trivial) rfl rfl, fun a w R => cl_tt (enter_at Try.func69) (R.val 13) (R.val 14) (Less_is t6_.out _), fun a w R => pickt (R.val 12) (R.val 15), fun a w R => pickn (R.val 8) (R.val 16), fun a w R => asg (R.val 17), trivial⟩ (fun act_ W1 I => ?_)
          rw [I.act [(8, .agg #[.int .i64 a1, .int .i64 a2]), (9, .agg #[.int .i64 p1, .int .i64 p2]), (10, .bool true), (11, .bool true), (12, .agg #[.int .i64 p1, .int .i64 p2]), (13, .agg #[.int .i64 b1, .int .i64 b2]), (14, .bool false), (15, .bool false), (16, .bool false), (17, .agg #[.int .i64 b1, .int .i64 b2]), (18, .agg #[.int .i64 p1, .int .i64 p2]), (19, .bool true), (20, .bool true), (21, .agg #[.int .i64 p1, .int .i64 p2]), (22, .agg #[.int .i64 a1, .int .i64 a2]), (23, .bool true), (24, .bool true), (25, .bool true), (7, .bool true)]
            ⟨I.val 0, I.val 1, I.val 2, I.val 3, I.val 4, I.val 5, I.val 6, I.val 7, I.val 8, I.val 9, I.val 10, I.val 11, I.val 12, I.val 13, I.val 14, I.val 15, I.val 16, I.val 17, I.val 18, trivial⟩ rfl]
          have sW1 : W0.heap.size ≤ W1.heap.size := I.below.size
          replace ow3 := I.keep ow3 trivial
          replace ow4 := I.keep ow4 trivial
          replace ow5 := I.keep ow5 trivial
          have hW1 : Bel w.heap.size w W1 := thenB hW0 I.below hW0.size
          clear I
          simp only [List.foldl_cons, List.foldl_nil, List.setIfInBounds_toArray, List.set_cons_zero, List.set_cons_succ]
          rcases Bool.eq_false_or_eq_true (in3 p1 p2 a1 a2 b1 b2) with t7 | t7
          · have t7_ := Lib.hid t7
            clear t7
            rcases Bool.eq_false_or_eq_true (((tn a1 a2 b1 b2 p1 p2) == 0)) with t8 | t8
            · have t8_ := Lib.hid t8
              clear t8
              go_upto_region 2 with fail
              refine region_memo_f (B := W1.heap.size) (L := .val (.bool true) :: .val (.bool true) :: .val (.agg #[.int .i64 p1, .int .i64 p2]) :: .val (.agg #[.int .i64 a1, .int .i64 a2]) :: .val (.agg #[.int .i64 b1, .int .i64 b2]) :: .new 37 #[.int .i64 p1, .int .i64 p2, .int .i64 a1, .int .i64 a2, .int .i64 b1, .int .i64 b2] (some (3, 3)) :: .val (.bool true) :: .val (.bool true) :: .val (.bool true) :: .val (.agg #[.int .i64 a1, .int .i64 a2]) :: .val (.agg #[.int .i64 b1, .int .i64 b2]) :: .val (.agg #[.int .i64 p1, .int .i64 p2]) :: .val (.int .i64 (tn a1 a2 b1 b2 p1 p2)) :: .val (.bool true) :: .val (.bool true) :: .val (.bool true) :: []) (by kernel_rfl) (Nat.le_refl _) ((by exact trivial))
                ⟨fun a w R => mv (R.slot 7 rfl), fun a w R => mv (R.val 0), fun a w R => ld_P (R.slot 3 rfl) (R.keep ow3 trivial) rfl rfl, fun a w R => ld_P (R.slot 4 rfl) (R.keep ow4 trivial) rfl rfl, fun a w R => ld_P (R.slot 5 rfl) (R.keep ow5 trivial) rfl rfl, fun a w R => bsP_3 (R.val 2) (R.val 3) (R.val 4), fun a w R => cl_n (enter_at Try.func95) (R.dep 5) (fun g hg => allIn3 t7_.out hg), fun a w R => pickt (R.val 1) (R.val 6), fun a w R => mv (R.val 7), fun a w R => ld_P (R.slot 4 rfl) (R.keep ow4 trivial) rfl rfl, fun a w R => ld_P (R.slot 5 rfl) (R.keep ow5 trivial) rfl rfl, fun a w R => ld_P (R.slot 3 rfl) (R.keep ow3 trivial) rfl rfl, fun a w R => cl_ttt (enter_at Try.func96) (R.val 9) (R.val 10) (R.val 11) (Turn_in (in3_iff.2 ⟨(in3_iff.1 t7_.out).2.1, (in3_iff.1 t7_.out).2.2, (in3_iff.1 t7_.out).1⟩) _), fun a w R => c_eql_tk (R.val 12) (Try.underlying3) t8_.out, fun a w R => pickt (R.val 8) (R.val 13), fun a w R => asg (R.val 14), trivial⟩ (fun act_ W2 I => ?_)
              obtain ⟨gb31, ew31, lw31, ow31⟩ := I.new 5 rfl rfl rfl
              rw [I.act [(26, .bool true), (27, .bool true), (28, .agg #[.int .i64 p1, .int .i64 p2]), (29, .agg #[.int .i64 a1, .int .i64 a2]), (30, .agg #[.int .i64 b1, .int .i64 b2]), (31, .slice (some ⟨gb31, 0, none⟩) 3 3), (32, .bool true), (33, .bool true), (34, .bool true), (35, .agg #[.int .i64 a1, .int .i64 a2]), (36, .agg #[.int .i64 b1, .int .i64 b2]), (37, .agg #[.int .i64 p1, .int .i64 p2]), (38, .int .i64 (tn a1 a2 b1 b2 p1 p2)), (39, .bool true), (40, .bool true), (6, .bool true)]
                ⟨I.val 0, I.val 1, I.val 2, I.val 3, I.val 4, ew31, I.val 6, I.val 7, I.val 8, I.val 9, I.val 10, I.val 11, I.val 12, I.val 13, I.val 14, I.val 15, trivial⟩ rfl]
              change W1.heap.size ≤ gb31 at lw31
              have sW2 : W1.heap.size ≤ W2.heap.size := I.below.size
              replace ow3 := I.keep ow3 trivial
              replace ow4 := I.keep ow4 trivial
              replace ow5 := I.keep ow5 trivial
              have hW2 : Bel w.heap.size w W2 := thenB hW1 I.below hW1.size
              clear ew31
              clear I
              simp only [List.foldl_cons, List.foldl_nil, List.setIfInBounds_toArray, List.set_cons_zero, List.set_cons_succ]
              clear ow3 ow4 ow5 ow31
              go_wp2
              try simp only [setCell_drawn]
              refine bodyPost_ret (by first | (simp [results, Try.results99, go_sem]; done) | (simp [results, Try.results99, go_sem]; rfl)) rfl ⟨?_, hW2⟩
              refine retb_eq ?_; simp [onB, t1_.out, t2_.out, t5_.out, t6_.out, t7_.out, t8_.out]
            · have t8_ := Lib.hid t8
              clear t8
              go_upto_region 2 with fail
              refine region_memo_f (B := W1.heap.size) (L := .val (.bool true) :: .val (.bool true) :: .val (.agg #[.int .i64 p1, .int .i64 p2]) :: .val (.agg #[.int .i64 a1, .int .i64 a2]) :: .val (.agg #[.int .i64 b1, .int .i64 b2]) :: .new 37 #[.int .i64 p1, .int .i64 p2, .int .i64 a1, .int .i64 a2, .int .i64 b1, .int .i64 b2] (some (3, 3)) :: .val (.bool true) :: .val (.bool true) :: .val (.bool true) :: .val (.agg #[.int .i64 a1, .int .i64 a2]) :: .val (.agg #[.int .i64 b1, .int .i64 b2]) :: .val (.agg #[.int .i64 p1, .int .i64 p2]) :: .val (.int .i64 (tn a1 a2 b1 b2 p1 p2)) :: .val (.bool false) :: .val (.bool false) :: .val (.bool false) :: []) (by kernel_rfl) (Nat.le_refl _) ((by exact trivial))
                ⟨fun a w R => mv (R.slot 7 rfl), fun a w R => mv (R.val 0), fun a w R => ld_P (R.slot 3 rfl) (R.keep ow3 trivial) rfl rfl, fun a w R => ld_P (R.slot 4 rfl) (R.keep ow4 trivial) rfl rfl, fun a w R => ld_P (R.slot 5 rfl) (R.keep ow5 trivial) rfl rfl, fun a w R => bsP_3 (R.val 2) (R.val 3) (R.val 4), fun a w R => cl_n (enter_at Try.func95) (R.dep 5) (fun g hg => allIn3 t7_.out hg), fun a w R => pickt (R.val 1) (R.val 6), fun a w R => mv (R.val 7), fun a w R => ld_P (R.slot 4 rfl) (R.keep ow4 trivial) rfl rfl, fun a w R => ld_P (R.slot 5 rfl) (R.keep ow5 trivial) rfl rfl, fun a w R => ld_P (R.slot 3 rfl) (R.keep ow3 trivial) rfl rfl, fun a w R => cl_ttt (enter_at Try.func96) (R.val 9) (R.val 10) (R.val 11) (Turn_in (in3_iff.2 ⟨(in3_iff.1 t7_.out).2.1, (in3_iff.1 t7_.out).2.2, (in3_iff.1 t7_.out).1⟩) _), fun a w R => c_eql_tk (R.val 12) (Try.underlying3) t8_.out, fun a w R => pickt (R.val 8) (R.val 13), fun a w R => asg (R.val 14), trivial⟩ (fun act_ W2 I => ?_)
              obtain ⟨gb31, ew31, lw31, ow31⟩ := I.new 5 rfl rfl rfl
              rw [I.act [(26, .bool true), (27, .bool true), (28, .agg #[.int .i64 p1, .int .i64 p2]), (29, .agg #[.int .i64 a1, .int .i64 a2]), (30, .agg #[.int .i64 b1, .int .i64 b2]), (31, .slice (some ⟨gb31, 0, none⟩) 3 3), (32, .bool true), (33, .bool true), (34, .bool true), (35, .agg #[.int .i64 a1, .int .i64 a2]), (36, .agg #[.int .i64 b1, .int .i64 b2]), (37, .agg #[.int .i64 p1, .int .i64 p2]), (38, .int .i64 (tn a1 a2 b1 b2 p1 p2)), (39, .bool false), (40, .bool false), (6, .bool false)]
                ⟨I.val 0, I.val 1, I.val 2, I.val 3, I.val 4, ew31, I.val 6, I.val 7, I.val 8, I.val 9, I.val 10, I.val 11, I.val 12, I.val 13, I.val 14, I.val 15, trivial⟩ rfl]
              change W1.heap.size ≤ gb31 at lw31
              have sW2 : W1.heap.size ≤ W2.heap.size := I.below.size
              replace ow3 := I.keep ow3 trivial
              replace ow4 := I.keep ow4 trivial
              replace ow5 := I.keep ow5 trivial
              have hW2 : Bel w.heap.size w W2 := thenB hW1 I.below hW1.size
              clear ew31
              clear I
              simp only [List.foldl_cons, List.foldl_nil, List.setIfInBounds_toArray, List.set_cons_zero, List.set_cons_succ]
              clear ow3 ow4 ow5 ow31
              go_wp2
              try simp only [setCell_drawn]
              refine bodyPost_ret (by first | (simp [results, Try.results99, go_sem]; done) | (simp [results, Try.results99, go_sem]; rfl)) rfl ⟨?_, hW2⟩
              refine retb_eq ?_; simp [onB, t1_.out, t2_.out, t5_.out, t6_.out, t7_.out, t8_.out]
          · have t7_ := Lib.hid t7
            clear t7
            go_upto_region 2 with fail
            refine region_memo_f (B := W1.heap.size) (L := .val (.bool true) :: .val (.bool true) :: .val (.agg #[.int .i64 p1, .int .i64 p2]) :: .val (.agg #[.int .i64 a1, .int .i64 a2]) :: .val (.agg #[.int .i64 b1, .int .i64 b2]) :: .new 37 #[.int .i64 p1, .int .i64 p2, .int .i64 a1, .int .i64 a2, .int .i64 b1, .int .i64 b2] (some (3, 3)) :: .val (.bool false) :: .val (.bool false) :: .val (.bool false) :: .skip :: .skip :: .skip :: .skip :: .skip :: .val (.bool false) :: .val (.bool false) :: []) (by kernel_rfl) (Nat.le_refl _) ((by exact trivial))
              ⟨fun a w R => mv (R.slot 7 rfl), fun a w R => mv (R.val 0), fun a w R => ld_P (R.slot 3 rfl) (R.keep ow3 trivial) rfl rfl, fun a w R => ld_P (R.slot 4 rfl) (R.keep ow4 trivial) rfl rfl, fun a w R => ld_P (R.slot 5 rfl) (R.keep ow5 trivial) rfl rfl, fun a w R => bsP_3 (R.val 2) (R.val 3) (R.val 4), fun a w R => cl_n (enter_at Try.func95) (R.dep 5) (fun g hg => allIn3 t7_.out hg), fun a w R => pickt (R.val 1) (R.val 6), fun a w R => mv (R.val 7), fun a w R => True.intro, fun a w R => True.intro, fun a w R => True.intro, fun a w R => True.intro, fun a w R => True.intro, fun a w R => pickf (R.val 8) (R.goneS 13), fun a w R => asg (R.val 14), trivial⟩ (fun act_ W2 I => ?_)
            obtain ⟨gb31, ew31, lw31, ow31⟩ := I.new 5 rfl rfl rfl
            rw [I.act [(26, .bool true), (27, .bool true), (28, .agg #[.int .i64 p1, .int .i64 p2]), (29, .agg #[.int .i64 a1, .int .i64 a2]), (30, .agg #[.int .i64 b1, .int .i64 b2]), (31, .slice (some ⟨gb31, 0, none⟩) 3 3), (32, .bool false), (33, .bool false), (34, .bool false), (35, undef), (36, undef), (37, undef), (38, undef), (39, undef), (40, .bool false), (6, .bool false)]
              ⟨I.val 0, I.val 1, I.val 2, I.val 3, I.val 4, ew31, I.val 6, I.val 7, I.val 8, I.gone 9, I.gone 10, I.gone 11, I.gone 12, I.gone 13, I.val 14, I.val 15, trivial⟩ rfl]
            change W1.heap.size ≤ gb31 at lw31
            have sW2 : W1.heap.size ≤ W2.heap.size := I.below.size
            replace ow3 := I.keep ow3 trivial
            replace ow4 := I.keep ow4 trivial
            replace ow5 := I.keep ow5 trivial
            have hW2 : Bel w.heap.size w W2 := thenB hW1 I.below hW1.size
            clear ew31
            clear I
            simp only [List.foldl_cons, List.foldl_nil, List.setIfInBounds_toArray, List.set_cons_zero, List.set_cons_succ]
            clear ow3 ow4 ow5 ow31
            go_wp2
            try simp only [setCell_drawn]
            refine bodyPost_ret (by first | (simp [results, Try.results99, go_sem]; done) | (simp [results, Try.results99, go_sem]; rfl)) rfl ⟨?_, hW2⟩
            refine retb_eq ?_; simp [onB, t1_.out, t2_.out, t5_.out, t6_.out, t7_.out]
        · have t6_ := Lib.hid t6
          clear t6
          go_upto_region 1 with fail
          refine region_memo_f (B := W0.heap.size) (L := .val (.agg #[.int .i64 a1, .int .i64 a2]) :: .val (.agg #[.int .i64 p1, .int .i64 p2]) :: .val (.bool true) :: .val (.bool true) :: .val (.agg #[.int .i64 p1, .int .i64 p2]) :: .val (.agg #[.int .i64 b1, .int .i64 b2]) :: .val (.bool false) :: .val (.bool false) :: .val (.bool false) :: .val (.agg #[.int .i64 b1, .int .i64 b2]) :: .val (.agg #[.int .i64 p1, .int .i64 p2]) :: .val (.bool true) :: .val (.bool true) :: .val (.agg #[.int .i64 p1, .int .i64 p2]) :: .val (.agg #[.int .i64 a1, .int .i64 a2]) :: .val (.bool false) :: .val (.bool false) :: .val (.bool false) :: .val (.bool false) :: []) (by kernel_rfl) (Nat.le_refl _) ((by exact trivial))
            ⟨fun a w R => ld_P (R.slot 4 rfl) (R.keep ow4 trivial) rfl rfl, fun a w R => ld_P (R.slot 3 rfl) (R.keep ow3 trivial) rfl rfl, fun a w R => cl_tt (enter_at Try.func69) (R.val 0) (R.val 1) (Less_is t1_.out _), fun a w R => mv (R.val 2), fun a w R => ld_P (R.slot 3 rfl) (R.keep ow3 trivial) rfl rfl, fun a w R => ld_P (R.slot 5 rfl) (R.keep ow5 trivial) rfl rfl, fun a w R => cl_tt (enter_at Try.func69) (R.val 4) (R.val 5) (Less_is t2_.out _), fun a w R => pickt (R.val 3) (R.val 6), fun a w R => mv (R.val 7), fun a w R => ld_P (R.slot 5 rfl) (R.keep ow5 trivial) rfl rfl, fun a w R => ld_P (R.slot 3 rfl) (R.keep ow3 trivial) rfl rfl, fun a w R => cl_tt (enter_at Try.func69) (R.val 9) (R.val 10) (Less_is t5_.out _), fun a w R => mv (R.val 11), fun a w R => ld_P (R.slot 3 rfl) (R.keep ow3 trivial) rfl rfl, fun a w R => ld_P (R.slot 4 rfl) (R.keep ow4 trivial) rfl rfl, fun a w R => cl_tt (enter_at Try.func69) (R.val 13) (R.val 14) (Less_is t6_.out _), fun a w R => pickt (R.val 12) (R.val 15), fun a w R => pickn (R.val 8) (R.val 16), fun a w R => asg (R.val 17), trivial⟩ (fun act_ W1 I => ?_)
          rw [I.act [(8, .agg #[.int .i64 a1, .int .i64 a2]), (9, .agg #[.int .i64 p1, .int .i64 p2]), (10, .bool true), (11, .bool true), (12, .agg #[.int .i64 p1, .int .i64 p2]), (13, .agg #[.int .i64 b1, .int .i64 b2]), (14, .bool false), (15, .bool false), (16, .bool false), (17, .agg #[.int .i64 b1, .int .i64 b2]), (18, .agg #[.int .i64 p1, .int .i64 p2]), (19, .bool true), (20, .bool true), (21, .agg #[.int .i64 p1, .int .i64 p2]), (22, .agg #[.int .i64 a1, .int .i64 a2]), (23, .bool false), (24, .bool false), (25, .bool false), (7, .bool false)]
            ⟨I.val 0, I.val 1, I.val 2, I.val 3, I.val 4, I.val 5, I.val 6, I.val 7, I.val 8, I.val 9, I.val 10, I.val 11, I.val 12, I.val 13, I.val 14, I.val 15, I.val 16, I.val 17, I.val 18, trivial⟩ rfl]
          have sW1 : W0.heap.size ≤ W1.heap.size := I.below.size
          replace ow3 := I.keep ow3 trivial
          replace ow4 := I.keep ow4 trivial
          replace ow5 := I.keep ow5 trivial
          have hW1 : Bel w.heap.size w W1 := thenB hW0 I.below hW0.size
          clear I
          simp only [List.foldl_cons, List.foldl_nil, List.setIfInBounds_toArray, List.set_cons_zero, List.set_cons_succ]
          go_upto_region 2 with fail
          refine region_memo_f (B := W1.heap.size) (L := .val (.bool false) :: .val (.bool false) :: .skip :: .skip :: .skip :: .skip :: .skip :: .val (.bool false) :: .val (.bool false) :: .skip :: .skip :: .skip :: .skip :: .skip :: .val (.bool false) :: .val (.bool false) :: []) (by kernel_rfl) (Nat.le_refl _) ((by exact trivial))
            ⟨fun a w R => mv (R.slot 7 rfl), fun a w R => mv (R.val 0), fun a w R => True.intro, fun a w R => True.intro, fun a w R => True.intro, fun a w R => True.intro, fun a w R => True.intro, fun a w R => pickf (R.val 1) (R.goneS 6), fun a w R => mv (R.val 7), fun a w R => True.intro, fun a w R => True.intro, fun a w R => True.intro, fun a w R => True.intro, fun a w R => True.intro, fun a w R => pickf (R.val 8) (R.goneS 13), fun a w R => asg (R.val 14), trivial⟩ (fun act_ W2 I => ?_)
          rw [I.act [(26, .bool false), (27, .bool false), (28, undef), (29, undef), (30, undef), (31, undef), (32, undef), (33, .bool false), (34, .bool false), (35, undef), (36, undef), (37, undef), (38, undef), (39, undef), (40, .bool false), (6, .bool false)]
            ⟨I.val 0, I.val 1, I.gone 2, I.gone 3, I.gone 4, I.gone 5, I.gone 6, I.val 7, I.val 8, I.gone 9, I.gone 10, I.gone 11, I.gone 12, I.gone 13, I.val 14, I.val 15, trivial⟩ rfl]
          have sW2 : W1.heap.size ≤ W2.heap.size := I.below.size
          replace ow3 := I.keep ow3 trivial
          replace ow4 := I.keep ow4 trivial
          replace ow5 := I.keep ow5 trivial
          have hW2 : Bel w.heap.size w W2 := thenB hW1 I.below hW1.size
          clear I
          simp only [List.foldl_cons, List.foldl_nil, List.setIfInBounds_toArray, List.set_cons_zero, List.set_cons_succ]
          clear ow3 ow4 ow5
          go_wp2
          try simp only [setCell_drawn]
          refine bodyPost_ret (by first | (simp [results, Try.results99, go_sem]; done) | (simp [results, Try.results99, go_sem]; rfl)) rfl ⟨?_, hW2⟩
          refine retb_eq ?_; simp [onB, t1_.out, t2_.out, t5_.out, t6_.out]
      · have t5_ := Lib.hid t5
        clear t5
        go_upto_region 1 with fail
        refine region_memo_f (B := W0.heap.size) (L := .val (.agg #[.int .i64 a1, .int .i64 a2]) :: .val (.agg #[.int .i64 p1, .int .i64 p2]) :: .val (.bool true) :: .val (.bool true) :: .val (.agg #[.int .i64 p1, .int .i64 p2]) :: .val (.agg #[.int .i64 b1, .int .i64 b2]) :: .val (.bool false) :: .val (.bool false) :: .val (.bool false) :: .val (.agg #[.int .i64 b1, .int .i64 b2]) :: .val (.agg #[.int .i64 p1, .int .i64 p2]) :: .val (.bool false) :: .val (.bool false) :: .skip :: .skip :: .skip :: .val (.bool false) :: .val (.bool false) :: .val (.bool false) :: []) (by kernel_rfl) (Nat.le_refl _) ((by exact trivial))
          ⟨fun a w R => ld_P (R.slot 4 rfl) (R.keep ow4 trivial) rfl rfl, fun a w R => ld_P (R.slot 3 rfl) (R.keep ow3 trivial) rfl rfl, fun a w R => cl_tt (enter_at Try.func69) (R.val 0) (R.val 1) (Less_is t1_.out _), fun a w R => mv (R.val 2), fun a w R => ld_P (R.slot 3 rfl) (R.keep ow3 trivial) rfl rfl, fun a w R => ld_P (R.slot 5 rfl) (R.keep ow5 trivial) rfl rfl, fun a w R => cl_tt (enter_at Try.func69) (R.val 4) (R.val 5) (Less_is t2_.out _), fun a w R => pickt (R.val 3) (R.val 6), fun a w R => mv (R.val 7), fun a w R => ld_P (R.slot 5 rfl) (R.keep ow5 trivial) rfl rfl, fun a w R => ld_P (R.slot 3 rfl) (R.keep ow3 trivial) rfl rfl, fun a w R => cl_tt (enter_at Try.func69) (R.val 9) (R.val 10) (Less_is t5_.out _), fun a w R => mv (R.val 11), fun a w R => True.intro, fun a w R => True.intro, fun a w R => True.intro, fun a w R => pickf (R.val 12) (R.goneS 15), fun a w R => pickn (R.val 8) (R.val 16), fun a w R => asg (R.val 17), trivial⟩ (fun act_ W1 I => ?_)
        rw [I.act [(8, .agg #[.int .i64 a1, .int .i64 a2]), (9, .agg #[.int .i64 p1, .int .i64 p2]), (10, .bool true), (11, .bool true), (12, .agg #[.int .i64 p1, .int .i64 p2]), (13, .agg #[.int .i64 b1, .int .i64 b2]), (14, .bool false), (15, .bool false), (16, .bool false), (17, .agg #[.int .i64 b1, .int .i64 b2]), (18, .agg #[.int .i64 p1, .int .i64 p2]), (19, .bool false), (20, .bool false), (21, undef), (22, undef), (23, undef), (24, .bool false), (25, .bool false), (7, .bool false)]
          ⟨I.val 0, I.val 1, I.val 2, I.val 3, I.val 4, I.val 5, I.val 6, I.val 7, I.val 8, I.val 9, I.val 10, I.val 11, I.val 12, I.gone 13, I.gone 14, I.gone 15, I.val 16, I.val 17, I.val 18, trivial⟩ rfl]
        have sW1 : W0.heap.size ≤ W1.heap.size := I.below.size
        replace ow3 := I.keep ow3 trivial
        replace ow4 := I.keep ow4 trivial
        replace ow5 := I.keep ow5 trivial
        have hW1 : Bel w.heap.size w W1 := thenB hW0 I.below hW0.size
        clear I
        simp only [List.foldl_cons, List.foldl_nil, List.setIfInBounds_toArray, List.set_cons_zero, List.set_cons_succ]
        go_upto_region 2 with fail
        refine region_memo_f (B := W1.heap.size) (L := .val (.bool false) :: .val (.bool false) :: .skip :: .skip :: .skip :: .skip :: .skip :: .val (.bool false) :: .val (.bool false) :: .skip :: .skip :: .skip :: .skip :: .skip :: .val (.bool false) :: .val (.bool false) :: []) (by kernel_rfl) (Nat.le_refl _) ((by exact trivial))
          ⟨fun a w R => mv (R.slot 7 rfl), fun a w R => mv (R.val 0), fun a w R => True.intro, fun a w R => True.intro, fun a w R => True.intro, fun a w R => True.intro, fun a w R => True.intro, fun a w R => pickf (R.val 1) (R.goneS 6), fun a w R => mv (R.val 7), fun a w R => True.intro, fun a w R => True.intro, fun a w R => True.intro, fun a w R => True.intro, fun a w R => True.intro, fun a w R => pickf (R.val 8) (R.goneS 13), fun a w R => asg (R.val 14), trivial⟩ (fun act_ W2 I => ?_)
        rw [I.act [(26, .bool false), (27, .bool false), (28, undef), (29, undef), (30, undef), (31, undef), (32, undef), (33, .bool false), (34, .bool false), (35, undef), (36, undef), (37, undef), (38, undef), (39, undef), (40, .bool false), (6, .bool false)]
          ⟨I.val 0, I.val 1, I.gone 2, I.gone 3, I.gone 4, I.gone 5, I.gone 6, I.val 7, I.val 8, I.gone 9, I.gone 10, I.gone 11, I.gone 12, I.gone 13, I.val 14, I.val 15, trivial⟩ rfl]
        have sW2 : W1.heap.size ≤ W2.heap.size := I.below.size
        replace ow3 := I.keep ow3 trivial
        replace ow4 := I.keep ow4 trivial
        replace ow5 := I.keep ow5 trivial
        have hW2 : Bel w.heap.size w W2 := thenB hW1 I.below hW1.size
        clear I
        simp only [List.foldl_cons, List.foldl_nil, List.setIfInBounds_toArray, List.set_cons_zero, List.set_cons_succ]
        clear ow3 ow4 ow5
        go_wp2
        try simp only [setCell_drawn]
        refine bodyPost_ret (by first | (simp [results, Try.results99, go_sem]; done) | (simp [results, Try.results99, go_sem]; rfl)) rfl ⟨?_, hW2⟩
        refine retb_eq ?_; simp [onB, t1_.out, t2_.out, t5_.out]
  · have t1_ := Lib.hid t1
    clear t1
    rcases Bool.eq_false_or_eq_true (lsB b1 b2 p1 p2) with t9 | t9
    · have t9_ := Lib.hid t9
      clear t9
      rcases Bool.eq_false_or_eq_true (lsB p1 p2 a1 a2) with t10 | t10
      · have t10_ := Lib.hid t10
        clear t10
        go_upto_region 1 with fail
        refine region_memo_f (B := W0.heap.size) (L := .val (.agg #[.int .i64 a1, .int .i64 a2]) :: .val (.agg #[.int .i64 p1, .int .i64 p2]) :: .val (.bool false) :: .val (.bool false) :: .skip :: .skip :: .skip :: .val (.bool false) :: .val (.bool false) :: .val (.agg #[.int .i64 b1, .int .i64 b2]) :: .val (.agg #[.int .i64 p1, .int .i64 p2]) :: .val (.bool true) :: .val (.bool true) :: .val (.agg #[.int .i64 p1, .int .i64 p2]) :: .val (.agg #[.int .i64 a1, .int .i64 a2]) :: .val (.bool true) :: .val (.bool true) :: .val (.bool true) :: .val (.bool true) :: []) (by kernel_rfl) (Nat.le_refl _) ((by exact trivial))
          ⟨fun a w R => ld_P (R.slot 4 rfl) (R.keep ow4 trivial) rfl rfl, fun a w R => ld_P (R.slot 3 rfl) (R.keep ow3 trivial) rfl rfl, fun a w R => cl_tt (enter_at Try.func69) (R.val 0) (R.val 1) (Less_is t1_.out _), fun a w R => mv (R.val 2), fun a w R => True.intro, fun a w R => True.intro, fun a w R => True.intro, fun a w R => pickf (R.val 3) (R.goneS 6), fun a w R => mv (R.val 7), fun a w R => ld_P (R.slot 5 rfl) (R.keep ow5 trivial) rfl rfl, fun a w R => ld_P (R.slot 3 rfl) (R.keep ow3 trivial) rfl rfl, fun a w R => cl_tt (enter_at Try.func69) (R.val 9) (R.val 10) (Less_is t9_.out _), fun a w R => mv (R.val 11), fun a w R => ld_P (R.slot 3 rfl) (R.keep ow3 trivial) rfl rfl, fun a w R => ld_P (R.slot 4 rfl) (R.keep ow4 trivial) rfl rfl, fun a w R => cl_tt (enter_at Try.func69) (R.val 13) (R.val 14) (Less_is t10_.out _), fun a w R => pickt (R.val 12) (R.val 15), fun a w R => pickn (R.val 8) (R.val 16), fun a w R => asg (R.val 17), trivial⟩ (fun act_ W1 I => ?_)
        rw [I.act [(8, .agg #[.int .i64 a1, .int .i64 a2]), (9, .agg #[.int .i64 p1, .int .i64 p2]), (10, .bool false), (11, .bool false), (12, undef), (13, undef), (14, undef), (15, .bool false), (16, .bool false), (17, .agg #[.int .i64 b1, .int .i64 b2]), (18, .agg #[.int .i64 p1, .int .i64 p2]), (19, .bool true), (20, .bool true), (21, .agg #[.int .i64 p1, .int .i64 p2]), (22, .agg #[.int .i64 a1, .int .i64 a2]), (23, .bool true), (24, .bool true), (25, .bool true), (7, .bool true)]
          ⟨I.val 0, I.val 1, I.val 2, I.val 3, I.gone 4, I.gone 5, I.gone 6, I.val 7, I.val 8, I.val 9, I.val 10, I.val 11, I.val 12, I.val 13, I.val 14, I.val 15, I.val 16, I.val 17, I.val 18, trivial⟩ rfl]
        have sW1 : W0.heap.size ≤ W1.heap.size := I.below.size
        replace ow3 := I.keep ow3 trivial
        replace ow4 := I.keep ow4 trivial
        replace ow5 := I.keep ow5 trivial
        have hW1 : Bel w.heap.size w W1 := thenB hW0 I.below hW0.size
        clear I
        simp only [List.foldl_cons, List.foldl_nil, List.setIfInBounds_toArray, List.set_cons_zero, List.set_cons_succ]
        rcases Bool.eq_false_or_eq_true (in3 p1 p2 a1 a2 b1 b2) with t11 | t11
        · have t11_ := Lib.hid t11
          clear t11
          rcases Bool.eq_false_or_eq_true (((tn a1 a2 b1 b2 p1 p2) == 0)) with t12 | t12
          · have t12_ := Lib.hid t12
            clear t12
            go_upto_region 2 with fail
            refine region_memo_f (B := W1.heap.size) (L := .val (.bool true) :: .val (.bool true) :: .val (.agg #[.int .i64 p1, .int .i64 p2]) :: .val (.agg #[.int .i64 a1, .int .i64 a2]) :: .val (.agg #[.int .i64 b1, .int .i64 b2]) :: .new 37 #[.int .i64 p1, .int .i64 p2, .int .i64 a1, .int .i64 a2, .int .i64 b1, .int .i64 b2] (some (3, 3)) :: .val (.bool true) :: .val (.bool true) :: .val (.bool true) :: .val (.agg #[.int .i64 a1, .int .i64 a2]) :: .val (.agg #[.int .i64 b1, .int .i64 b2]) :: .val (.agg #[.int .i64 p1, .int .i64 p2]) :: .val (.int .i64 (tn a1 a2 b1 b2 p1 p2)) :: .val (.bool true) :: .val (.bool true) :: .val (.bool true) :: []) (by kernel_rfl) (Nat.le_refl _) ((by exact trivial))
              ⟨fun a w R => mv (R.slot 7 rfl), fun a w R => mv (R.val 0), fun a w R => ld_P (R.slot 3 rfl) (R.keep ow3 trivial) rfl rfl, fun a w R => ld_P (R.slot 4 rfl) (R.keep ow4 trivial) rfl rfl, fun a w R => ld_P (R.slot 5 rfl) (R.keep ow5 trivial) rfl rfl, fun a w R => bsP_3 (R.val 2) (R.val 3) (R.val 4), fun a w R => cl_n (enter_at Try.func95) (R.dep 5) (fun g hg => allIn3 t11_.out hg), fun a w R => pickt (R.val 1) (R.val 6), fun a w R => mv (R.val 7), fun a w R => ld_P (R.slot 4 rfl) (R.keep ow4 trivial) rfl rfl, fun a w R => ld_P (R.slot 5 rfl) (R.keep ow5 trivial) rfl rfl, fun a w R => ld_P (R.slot 3 rfl) (R.keep ow3 trivial) rfl rfl, fun a w R => cl_ttt (enter_at Try.func96) (R.val 9) (R.val 10) (R.val 11) (Turn_in (in3_iff.2 ⟨(in3_iff.1 t11_.out).2.1, (in3_iff.1 t11_.out).2.2, (in3_iff.1 t11_.out).1⟩) _), fun a w R => c_eql_tk (R.val 12) (Try.underlying3) t12_.out, fun a w R => pickt (R.val 8) (R.val 13), fun a w R => asg (R.val 14), trivial⟩ (fun act_ W2 I => ?_)
            obtain ⟨gb31, ew31, lw31, ow31⟩ := I.new 5 rfl rfl rfl
            rw [I.act [(26, .bool true), (27, .bool true), (28, .agg #[.int .i64 p1, .int .i64 p2]), (29, .agg #[.int .i64 a1, .int .i64 a2]), (30, .agg #[.int .i64 b1, .int .i64 b2]), (31, .slice (some ⟨gb31, 0, none⟩) 3 3), (32, .bool true), (33, .bool true), (34, .bool true), (35, .agg #[.int .i64 a1, .int .i64 a2]), (36, .agg #[.int .i64 b1, .int .i64 b2]), (37, .agg #[.int .i64 p1, .int .i64 p2]), (38, .int .i64 (tn a1 a2 b1 b2 p1 p2)), (39, .bool true), (40, .bool true), (6, .bool true)]
              ⟨I.val 0, I.val 1, I.val 2, I.val 3, I.val 4, ew31, I.val 6, I.val 7, I.val 8, I.val 9, I.val 10, I.val 11, I.val 12, I.val 13, I.val 14, I.val 15, trivial⟩ rfl]
            change W1.heap.size ≤ gb31 at lw31
            have sW2 : W1.heap.size ≤ W2.heap.size := I.below.size
            replace ow3 := I.keep ow3 trivial
            replace ow4 := I.keep ow4 trivial
            replace ow5 := I.keep ow5 trivial
            have hW2 : Bel w.heap.size w W2 := thenB hW1 I.below hW1.size
            clear ew31
            clear I
            simp only [List.foldl_cons, List.foldl_nil, List.setIfInBounds_toArray, List.set_cons_zero, List.set_cons_succ]
            clear ow3 ow4 ow5 ow31
            go_wp2
            try simp only [setCell_drawn]
            refine bodyPost_ret (by first | (simp [results, Try.results99, go_sem]; done) | (simp [results, Try.results99, go_sem]; rfl)) rfl ⟨?_, hW2⟩
            refine retb_eq ?_; simp [onB, t1_.out, t9_.out, t10_.out, t11_.out, t12_.out]
          · have t12_ := Lib.hid t12
            clear t12
            go_upto_region 2 with fail
            refine region_memo_f (B := W1.heap.size) (L := .val (.bool true) :: .val (.bool true) :: .val (.agg #[.int .i64 p1, .int .i64 p2]) :: .val (.agg #[.int .i64 a1, .int .i64 a2]) :: .val (.agg #[.int .i64 b1, .int .i64 b2]) :: .new 37 #[.int .i64 p1, .int .i64 p2, .int .i64 a1, .int .i64 a2, .int .i64 b1, .int .i64 b2] (some (3, 3)) :: .val (.bool true) :: .val (.bool true) :: .val (.bool true) :: .val (.agg #[.int .i64 a1, .int .i64 a2]) :: .val (.agg #[.int .i64 b1, .int .i64 b2]) :: .val (.agg #[.int .i64 p1, .int .i64 p2]) :: .val (.int .i64 (tn a1 a2 b1 b2 p1 p2)) :: .val (.bool false) :: .val (.bool false) :: .val (.bool false) :: []) (by kernel_rfl) (Nat.le_refl _) ((by exact trivial))
              ⟨fun a w R => mv (R.slot 7 rfl), fun a w R => mv (R.val 0), fun a w R => ld_P (R.slot 3 rfl) (R.keep ow3 trivial) rfl rfl, fun a w R => ld_P (R.slot 4 rfl) (R.keep ow4 trivial) rfl rfl, fun a w R => ld_P (R.slot 5 rfl) (R.keep ow5 trivial) rfl rfl, fun a w R => bsP_3 (R.val 2) (R.val 3) (R.val 4), fun a w R => cl_n (enter_at Try.func95) (R.dep 5) (fun g hg => allIn3 t11_.out hg), fun a w R => pickt (R.val 1) (R.val 6), fun a w R => mv (R.val 7), fun a w R => ld_P (R.slot 4 rfl) (R.keep ow4 trivial) rfl rfl, fun a w R => ld_P (R.slot 5 rfl) (R.keep ow5 trivial) rfl rfl, fun a w R => ld_P (R.slot 3 rfl) (R.keep ow3 trivial) rfl rfl, fun a w R => cl_ttt (enter_at Try.func96) (R.val 9) (R.val 10) (R.val 11) (Turn_in (in3_iff.2 ⟨(in3_iff.1 t11_.out).2.1, (in3_iff.1 t11_.out).2.2, (in3_iff.1 t11_.out).1⟩) _), fun a w R => c_eql_tk (R.val 12) (Try.underlying3) t12_.out, fun a w R => pickt (R.val 8) (R.val 13), fun a w R => asg (R.val 14), trivial⟩ (fun act_ W2 I => ?_)
            obtain ⟨gb31, ew31, lw31, ow31⟩ := I.new 5 rfl rfl rfl
            rw [I.act [(26, .bool true), (27, .bool true), (28, .agg #[.int .i64 p1, .int .i64 p2]), (29, .agg #[.int .i64 a1, .int .i64 a2]), (30, .agg #[.int .i64 b1, .int .i64 b2]), (31, .slice (some ⟨gb31, 0, none⟩) 3 3), (32, .bool true), (33, .bool true), (34, .bool true), (35, .agg #[.int .i64 a1, .int .i64 a2]), (36, .agg #[.int .i64 b1, .int .i64 b2]), (37, .agg #[.int .i64 p1, .int .i64 p2]), (38, .int .i64 (tn a1 a2 b1 b2 p1 p2)), (39, .bool false), (40, .bool false), (6, .bool false)]
              ⟨I.val 0, I.val 1, I.val 2, I.val 3, I.val 4, ew31, I.val 6, I.val 7, I.val 8, I.val 9, I.val 10, I.val 11, I.val 12, I.val 13, I.val 14, I.val 15, trivial⟩ rfl]
            change W1.heap.size ≤ gb31 at lw31
            have sW2 : W1.heap.size ≤ W2.heap.size := I.below.size
            replace ow3 := I.keep ow3 trivial
            replace ow4 := I.keep ow4 trivial
            replace ow5 := I.keep ow5 trivial
            have hW2 : Bel w.heap.size w W2 := thenB hW1 I.below hW1.size
            clear ew31
            clear I
            simp only [List.foldl_cons, List.foldl_nil, List.setIfInBounds_toArray, List.set_cons_zero, List.set_cons_succ]
            clear ow3 ow4 ow5 ow31
            go_wp2
            try simp only [setCell_drawn]
            refine bodyPost_ret (by first | (simp [results, Try.results99, go_sem]; done) | (simp [results, Try.results99, go_sem]; rfl)) rfl ⟨?_, hW2⟩
            refine retb_eq ?_; simp [onB, t1_.out, t9_.out, t10_.out, t11_.out, t12_.out]
        · have t11_ := Lib.hid t11
          clear t11
          go_upto_region 2 with fail
          refine region_memo_f (B := W1.heap.size) (L := .val (.bool true) :: .val (.bool true) :: .val (.agg #[.int .i64 p1, .int .i64 p2]) :: .val (.agg #[.int .i64 a1, .int .i64 a2]) :: .val (.agg #[.int .i64 b1, .int .i64 b2]) :: .new 37 #[.int .i64 p1, .int .i64 p2, .int .i64 a1, .int .i64 a2, .int .i64 b1, .int .i64 b2] (some (3, 3)) :: .val (.bool false) :: .val (.bool false) :: .val (.bool false) :: .skip :: .skip :: .skip :: .skip :: .skip :: .val (.bool false) :: .val (.bool false) :: []) (by kernel_rfl) (Nat.le_refl _) ((by exact trivial))
            ⟨fun a w R => mv (R.slot 7 rfl), fun a w R => mv (R.val 0), fun a w R => ld_P (R.slot 3 rfl) (R.keep ow3 trivial) rfl rfl, fun a w R => ld_P (R.slot 4 rfl) (R.keep ow4 trivial) rfl rfl, fun a w R => ld_P (R.slot 5 rfl) (R.keep ow5 trivial) rfl rfl, fun a w R => bsP_3 (R.val 2) (R.val 3) (R.val 4), fun a w R => cl_n (enter_at Try.func95) (R.dep 5) (fun g hg => allIn3 t11_.out hg), fun a w R => pickt (R.val 1) (R.val 6), fun a w R => mv (R.val 7), fun a w R => True.intro, fun a w R => True.intro, fun a w R => True.intro, fun a w R => True.intro, fun a w R => True.intro, fun a w R => pickf (R.val 8) (R.goneS 13), fun a w R => asg (R.val 14), trivial⟩ (fun act_ W2 I => ?_)
          obtain ⟨gb31, ew31, lw31, ow31⟩ := I.new 5 rfl rfl rfl
          rw [I.act [(26, .bool true), (27, .bool true), (28, .agg #[.int .i64 p1, .int .i64 p2]), (29, .agg #[.int .i64 a1, .int .i64 a2]), (30, .agg #[.int .i64 b1, .int .i64 b2]), (31, .slice (some ⟨gb31, 0, none⟩) 3 3), (32, .bool false), (33, .bool false), (34, .bool false), (35, undef), (36, undef), (37, undef), (38, undef), (39, undef), (40, .bool false), (6, .bool false)]
            ⟨I.val 0, I.val 1, I.val 2, I.val 3, I.val 4, ew31, I.val 6, I.val 7, I.val 8, I.gone 9, I.gone 10, I.gone 11, I.gone 12, I.gone 13, I.val 14, I.val 15, trivial⟩ rfl]
          change W1.heap.size ≤ gb31 at lw31
          have sW2 : W1.heap.size ≤ W2.heap.size := I.below.size
          replace ow3 := I.keep ow3 trivial
          replace ow4 := I.keep ow4 trivial
          replace ow5 := I.keep ow5 trivial
          have hW2 : Bel w.heap.size w W2 := thenB hW1 I.below hW1.size
          clear ew31
          clear I
          simp only [List.foldl_cons, List.foldl_nil, List.setIfInBounds_toArray, List.set_cons_zero, List.set_cons_succ]
          clear ow3 ow4 ow5 ow31
          go_wp2
          try simp only [setCell_drawn]
          refine bodyPost_ret (by first | (simp [results, Try.results99, go_sem]; done) | (simp [results, Try.results99, go_sem]; rfl)) rfl ⟨?_, hW2⟩
          refine retb_eq ?_; simp [onB, t1_.out, t9_.out, t10_.out, t11_.out]
      · have t10_ := Lib.hid t10
        clear t10
        go_upto_region 1 with fail
        refine region_memo_f (B := W0.heap.size) (L := .val (.agg #[.int .i64 a1, .int .i64 a2]) :: .val (.agg #[.int .i64 p1, .int .i64 p2]) :: .val (.bool false) :: .val (.bool false) :: .skip :: .skip :: .skip :: .val (.bool false) :: .val (.bool false) :: .val (.agg #[.int .i64 b1, .int .i64 b2]) :: .val (.agg #[.int .i64 p1, .int .i64 p2]) :: .val (.bool true) :: .val (.bool true) :: .val (.agg #[.int .i64 p1, .int .i64 p2]) :: .val (.agg #[.int .i64 a1, .int .i64 a2]) :: .val (.bool false) :: .val (.bool false) :: .val (.bool false) :: .val (.bool false) :: []) (by kernel_rfl) (Nat.le_refl _) ((by exact trivial))
          ⟨fun a w R => ld_P (R.slot 4 rfl) (R.keep ow4 trivial) rfl rfl, fun a w R => ld_P (R.slot 3 rfl) (R.keep ow3 trivial) rfl rfl, fun a w R => cl_tt (enter_at Try.func69) (R.val 0) (R.val 1) (Less_is t1_.out _), fun a w R => mv (R.val 2), fun a w R => True.intro, fun a w R => True.intro, fun a w R => True.intro, fun a w R => pickf (R.val 3) (R.goneS 6), fun a w R => mv (R.val 7), fun a w R => ld_P (R.slot 5 rfl) (R.keep ow5 trivial) rfl rfl, fun a w R => ld_P (R.slot 3 rfl) (R.keep ow3 trivial) rfl rfl, fun a w R => cl_tt (enter_at Try.func69) (R.val 9) (R.val 10) (Less_is t9_.out _), fun a w R => mv (R.val 11), fun a w R => ld_P (R.slot 3 rfl) (R.keep ow3 trivial) rfl rfl, fun a w R => ld_P (R.slot 4 rfl) (R.keep ow4 trivial) rfl rfl, fun a w R => cl_tt (enter_at Try.func69) (R.val 13) (R.val 14) (Less_is t10_.out _), fun a w R => pickt (R.val 12) (R.val 15), fun a w R => pickn (R.val 8) (R.val 16), fun a w R => asg (R.val 17), trivial⟩ (fun act_ W1 I => ?_)
        rw [I.act [(8, .agg #[.int .i64 a1, .int .i64 a2]), (9, .agg #[.int .i64 p1, .int .i64 p2]), (10, .bool false), (11, .bool false), (12, undef), (13, undef), (14, undef), (15, .bool false), (16, .bool false), (17, .agg #[.int .i64 b1, .int .i64 b2]), (18, .agg #[.int .i64 p1, .int .i64 p2]), (19, .bool true), (20, .bool true), (21, .agg #[.int .i64 p1, .int .i64 p2]), (22, .agg #[.int .i64 a1, .int .i64 a2]), (23, .bool false), (24, .bool false), (25, .bool false), (7, .bool false)]
          ⟨I.val 0, I.val 1, I.val 2, I.val 3, I.gone 4, I.gone 5, I.gone 6, I.val 7, I.val 8, I.val 9, I.val 10, I.val 11, I.val 12, I.val 13, I.val 14, I.val 15, I.val 16, I.val 17, I.val 18, trivial⟩ rfl]
        have sW1 : W0.heap.size ≤ W1.heap.size := I.below.size
        replace ow3 := I.keep ow3 trivial
        replace ow4 := I.keep ow4 trivial
        replace ow5 := I.keep ow5 trivial
        have hW1 : Bel w.heap.size w W1 := thenB hW0 I.below hW0.size
        clear I
        simp only [List.foldl_cons, List.foldl_nil, List.setIfInBounds_toArray, List.set_cons_zero, List.set_cons_succ]
        go_upto_region 2 with fail
        refine region_memo_f (B := W1.heap.size) (L := .val (.bool false) :: .val (.bool false) :: .skip :: .skip :: .skip :: .skip :: .skip :: .val (.bool false) :: .val (.bool false) :: .skip :: .skip :: .skip :: .skip :: .skip :: .val (.bool false) :: .val (.bool false) :: []) (by kernel_rfl) (Nat.le_refl _) ((by exact trivial))
          ⟨fun a w R => mv (R.slot 7 rfl), fun a w R => mv (R.val 0), fun a w R => True.intro, fun a w R => True.intro, fun a w R => True.intro, fun a w R => True.intro, fun a w R => True.intro, fun a w R => pickf (R.val 1) (R.goneS 6), fun a w R => mv (R.val 7), fun a w R => True.intro, fun a w R => True.intro, fun a w R => True.intro, fun a w R => True.intro, fun a w R => True.intro, fun a w R => pickf (R.val 8) (R.goneS 13), fun a w R => asg (R.val 14), trivial⟩ (fun act_ W2 I => ?_)
        rw [I.act [(26, .bool false), (27, .bool false), (28, undef), (29, undef), (30, undef), (31, undef), (32, undef), (33, .bool false), (34, .bool false), (35, undef), (36, undef), (37, undef), (38, undef), (39, undef), (40, .bool false), (6, .bool false)]
          ⟨I.val 0, I.val 1, I.gone 2, I.gone 3, I.gone 4, I.gone 5, I.gone 6, I.val 7, I.val 8, I.gone 9, I.gone 10, I.gone 11, I.gone 12, I.gone 13, I.val 14, I.val 15, trivial⟩ rfl]
        have sW2 : W1.heap.size ≤ W2.heap.size := I.below.size
        replace ow3 := I.keep ow3 trivial
        replace ow4 := I.keep ow4 trivial
        replace ow5 := I.keep ow5 trivial
        have hW2 : Bel w.heap.size w W2 := thenB hW1 I.below hW1.size
        clear I
        simp only [List.foldl_cons, List.foldl_nil, List.setIfInBounds_toArray, List.set_cons_zero, List.set_cons_succ]
        clear ow3 ow4 ow5
        go_wp2
        try simp only [setCell_drawn]
        refine bodyPost_ret (by first | (simp [results, Try.results99, go_sem]; done) | (simp [results, Try.results99, go_sem]; rfl)) rfl ⟨?_, hW2⟩
        refine retb_eq ?_; simp [onB, t1_.out, t9_.out, t10_.out]
    · have t9_ := Lib.hid t9
      clear t9
      go_upto_region 1 with fail
      refine region_memo_f (B := W0.heap.size) (L := .val (.agg #[.int .i64 a1, .int .i64 a2]) :: .val (.agg #[.int .i64 p1, .int .i64 p2]) :: .val (.bool false) :: .val (.bool false) :: .skip :: .skip :: .skip :: .val (.bool false) :: .val (.bool false) :: .val (.agg #[.int .i64 b1, .int .i64 b2]) :: .val (.agg #[.int .i64 p1, .int .i64 p2]) :: .val (.bool false) :: .val (.bool false) :: .skip :: .skip :: .skip :: .val (.bool false) :: .val (.bool false) :: .val (.bool false) :: []) (by kernel_rfl) (Nat.le_refl _) ((by exact trivial))
        ⟨fun a w R => ld_P (R.slot 4 rfl) (R.keep ow4 trivial) rfl rfl, fun a w R => ld_P (R.slot 3 rfl) (R.keep ow3 trivial) rfl rfl, fun a w R => cl_tt (enter_at Try.func69) (R.val 0) (R.val 1) (Less_is t1_.out _), fun a w R => mv (R.val 2), fun a w R => True.intro, fun a w R => True.intro, fun a w R => True.intro, fun a w R => pickf (R.val 3) (R.goneS 6), fun a w R => mv (R.val 7), fun a w R => ld_P (R.slot 5 rfl) (R.keep ow5 trivial) rfl rfl, fun a w R => ld_P (R.slot 3 rfl) (R.keep ow3 trivial) rfl rfl, fun a w R => cl_tt (enter_at Try.func69) (R.val 9) (R.val 10) (Less_is t9_.out _), fun a w R => mv (R.val 11), fun a w R => True.intro, fun a w R => True.intro, fun a w R => True.intro, fun a w R => pickf (R.val 12) (R.goneS 15), fun a w R => pickn (R.val 8) (R.val 16), fun a w R => asg (R.val 17), trivial⟩ (fun act_ W1 I => ?_)
      rw [I.act [(8, .agg #[.int .i64 a1, .int .i64 a2]), (9, .agg #[.int .i64 p1, .int .i64 p2]), (10, .bool false), (11, .bool false), (12, undef), (13, undef), (14, undef), (15, .bool false), (16, .bool false), (17, .agg #[.int .i64 b1, .int .i64 b2]), (18, .agg #[.int .i64 p1, .int .i64 p2]), (19, .bool false), (20, .bool false), (21, undef), (22, undef), (23, undef), (24, .bool false), (25, .bool false), (7, .bool false)]
        ⟨I.val 0, I.val 1, I.val 2, I.val 3, I.gone 4, I.gone 5, I.gone 6, I.val 7, I.val 8, I.val 9, I.val 10, I.val 11, I.val 12, I.gone 13, I.gone 14, I.gone 15, I.val 16, I.val 17, I.val 18, trivial⟩ rfl]
      have sW1 : W0.heap.size ≤ W1.heap.size := I.below.size
      replace ow3 := I.keep ow3 trivial
      replace ow4 := I.keep ow4 trivial
      replace ow5 := I.keep ow5 trivial
      have hW1 : Bel w.heap.size w W1 := thenB hW0 I.below hW0.size
      clear I
      simp only [List.foldl_cons, List.foldl_nil, List.setIfInBounds_toArray, List.set_cons_zero, List.set_cons_succ]
      go_upto_region 2 with fail
      refine region_memo_f (B := W1.heap.size) (L := .val (.bool false) :: .val (.bool false) :: .skip :: .skip :: .skip :: .skip :: .skip :: .val (.bool false) :: .val (.bool false) :: .skip :: .skip :: .skip :: .skip :: .skip :: .val (.bool false) :: .val (.bool false) :: []) (by kernel_rfl) (Nat.le_refl _) ((by exact trivial))
        ⟨fun a w R => mv (R.slot 7 rfl), fun a w R => mv (R.val 0), fun a w R => True.intro, fun a w R => True.intro, fun a w R => True.intro, fun a w R => True.intro, fun a w R => True.intro, fun a w R => pickf (R.val 1) (R.goneS 6), fun a w R => mv (R.val 7), fun a w R => True.intro, fun a w R => True.intro, fun a w R => True.intro, fun a w R => True.intro, fun a w R => True.intro, fun a w R => pickf (R.val 8) (R.goneS 13), fun a w R => asg (R.val 14), trivial⟩ (fun act_ W2 I => ?_)
      rw [I.act [(26, .bool false), (27, .bool false), (28, undef), (29, undef), (30, undef), (31, undef), (32, undef), (33, .bool false), (34, .bool false), (35, undef), (36, undef), (37, undef), (38, undef), (39, undef), (40, .bool false), (6, .bool false)]
        ⟨I.val 0, I.val 1, I.gone 2, I.gone 3, I.gone 4, I.gone 5, I.gone 6, I.val 7, I.val 8, I.gone 9, I.gone 10, I.gone 11, I.gone 12, I.gone 13, I.val 14, I.val 15, trivial⟩ rfl]
      have sW2 : W1.heap.size ≤ W2.heap.size := I.below.size
      replace ow3 := I.keep ow3 trivial
      replace ow4 := I.keep ow4 trivial
      replace ow5 := I.keep ow5 trivial
      have hW2 : Bel w.heap.size w W2 := thenB hW1 I.below hW1.size
      clear I
      simp only [List.foldl_cons, List.foldl_nil, List.setIfInBounds_toArray, List.set_cons_zero, List.set_cons_succ]
      clear ow3 ow4 ow5
      go_wp2
      try simp only [setCell_drawn]
      refine bodyPost_ret (by first | (simp [results, Try.results99, go_sem]; done) | (simp [results, Try.results99, go_sem]; rfl)) rfl ⟨?_, hW2⟩
      refine retb_eq ?_; simp [onB, t1_.out, t9_.out]
theorem On_is {p1 p2 a1 a2 b1 b2 : Int} {b : Bool} (h : onB p1 p2 a1 a2 b1 b2 = b) (w : World) : Calls Try.prog 99 #[.agg #[.int .i64 p1, .int .i64 p2], .agg #[.int .i64 a1, .int .i64 a2], .agg #[.int .i64 b1, .int .i64 b2]] w fun e w' => e = .returned (.bool b) ∧ Bel w.heap.size w w' := h ▸ On_any w
end Go.Proofs.Ytibnackmddigaaa
