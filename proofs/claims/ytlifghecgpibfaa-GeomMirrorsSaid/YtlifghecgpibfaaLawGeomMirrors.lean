/- GeomMirrors: turned around, mirrored, or moved within the range, points turn and meet as they did, but for the sign; for any five points. -/
import Derived.Test.YtlifghecgpibfaaRows
import Derived.Test.YtlifghecgpibfaaBase
import Derived.Test.YtlifghecgpibfaaGeoH
import Derived.Test.YtlifghecgpibfaaPts
import Derived.Test.YtlifghecgpibfaaGeoGm
import Derived.Test.YtlifghecgpibfaaGeoL
import Derived.WalkKit
import Derived.ProofKit
import Derived.OpenShut
import Derived.ShutString
import Derived.ChangeOld
import Derived.Below
import Derived.SliceStrings
namespace Go.Proofs.Ytlifghecgpibfaa.geomMirrors
open Go.ChangeShapes Go.WideShapes Go.ChangeAt Go.RowKit
open Go.ChangeMaps (open_string shut_string)
set_option linter.unusedVariables false

theorem own : ownKnob Try.prog.godebug = none := by kernel_rfl
theorem laidOut : laidOutB Try.prog = true := by kernel_rfl

set_option maxHeartbeats 16000000 in
set_option maxRecDepth 20000 in
theorem walk (a1 a2 : Int) (b1 b2 : Int) (c1 c2 : Int) (d1 d2 : Int) (e1 e2 : Int) (w : World) (fa1 : (Lit.int .i64 a1).wf = true) (fa2 : (Lit.int .i64 a2).wf = true) (fb1 : (Lit.int .i64 b1).wf = true) (fb2 : (Lit.int .i64 b2).wf = true) (fc1 : (Lit.int .i64 c1).wf = true) (fc2 : (Lit.int .i64 c2).wf = true) (fd1 : (Lit.int .i64 d1).wf = true) (fd2 : (Lit.int .i64 d2).wf = true) (fe1 : (Lit.int .i64 e1).wf = true) (fe2 : (Lit.int .i64 e2).wf = true) :
    Calls Try.prog 3 #[.agg #[.int .i64 a1, .int .i64 a2], .agg #[.int .i64 b1, .int .i64 b2], .agg #[.int .i64 c1, .int .i64 c2], .agg #[.int .i64 d1, .int .i64 d2], .agg #[.int .i64 e1, .int .i64 e2]] w fun e w' => e = .returned (.bool true) ∧ Below w.heap.size w w' := by
  go_enter Try.func3, Try.ntmps3
  go_upto_region 1 with fail
  go_name_world W0 hW0e
  have ow5 : Own W0 w.heap.size 23 #[.int .i64 a1, .int .i64 a2] := hW0e ▸ (by repeat' (first | (with_reducible assumption) | (with_reducible refine Own.drawnN ?_ _) | (with_reducible refine Own.drawn ?_) | (with_reducible refine Own.made_at ?_; first | rfl | (simp; done) | omega | (simp; omega)) | (with_reducible refine Own.more ?_ _) | (with_reducible refine Own.apart ?_ ?_ _ _; rotate_left; first | omega | (simp; done) | (simp; omega)) | (refine Own.put ?_ _ _)))
  have ow6 : Own W0 (w.heap.size + 1) 23 #[.int .i64 b1, .int .i64 b2] := hW0e ▸ (by repeat' (first | (with_reducible assumption) | (with_reducible refine Own.drawnN ?_ _) | (with_reducible refine Own.drawn ?_) | (with_reducible refine Own.made_at ?_; first | rfl | (simp; done) | omega | (simp; omega)) | (with_reducible refine Own.more ?_ _) | (with_reducible refine Own.apart ?_ ?_ _ _; rotate_left; first | omega | (simp; done) | (simp; omega)) | (refine Own.put ?_ _ _)))
  have ow7 : Own W0 (w.heap.size + 1 + 1) 23 #[.int .i64 c1, .int .i64 c2] := hW0e ▸ (by repeat' (first | (with_reducible assumption) | (with_reducible refine Own.drawnN ?_ _) | (with_reducible refine Own.drawn ?_) | (with_reducible refine Own.made_at ?_; first | rfl | (simp; done) | omega | (simp; omega)) | (with_reducible refine Own.more ?_ _) | (with_reducible refine Own.apart ?_ ?_ _ _; rotate_left; first | omega | (simp; done) | (simp; omega)) | (refine Own.put ?_ _ _)))
  have ow8 : Own W0 (w.heap.size + 1 + 1 + 1) 23 #[.int .i64 d1, .int .i64 d2] := hW0e ▸ (by repeat' (first | (with_reducible assumption) | (with_reducible refine Own.drawnN ?_ _) | (with_reducible refine Own.drawn ?_) | (with_reducible refine Own.made_at ?_; first | rfl | (simp; done) | omega | (simp; omega)) | (with_reducible refine Own.more ?_ _) | (with_reducible refine Own.apart ?_ ?_ _ _; rotate_left; first | omega | (simp; done) | (simp; omega)) | (refine Own.put ?_ _ _)))
  have ow9 : Own W0 (w.heap.size + 1 + 1 + 1 + 1) 23 #[.int .i64 e1, .int .i64 e2] := hW0e ▸ (by repeat' (first | (with_reducible assumption) | (with_reducible refine Own.drawnN ?_ _) | (with_reducible refine Own.drawn ?_) | (with_reducible refine Own.made_at ?_; first | rfl | (simp; done) | omega | (simp; omega)) | (with_reducible refine Own.more ?_ _) | (with_reducible refine Own.apart ?_ ?_ _ _; rotate_left; first | omega | (simp; done) | (simp; omega)) | (refine Own.put ?_ _ _)))
  have hW0 : Below w.heap.size w W0 := hW0e ▸ (by repeat' (first | (with_reducible exact Below.refl _ _) | (with_reducible assumption) | (with_reducible refine below_drewN ?_ _) | (with_reducible refine Below.drew ?_) | (with_reducible refine Below.alloc ?_ ?_ _) | (with_reducible refine Below.setCell ?_ ?_ _) | (with_reducible refine then_ ?_ (by with_reducible assumption) ?_) | (with_reducible exact Nat.le_refl _) | (with_reducible exact Nat.le_succ _) | (with_reducible exact Nat.le_succ_of_le (by with_reducible assumption)) | omega | (simp; done) | (simp; omega) | (exact Nat.le_succ _) | (exact Nat.le_succ_of_le (by with_reducible assumption))))
  clear hW0e
  have z0 := ow9.in_
  rcases Bool.eq_false_or_eq_true (in5 a1 a2 b1 b2 c1 c2 d1 d2 e1 e2) with t1 | t1
  · have t1_ := Lib.hid t1
    clear t1
    go_upto_region 1 with fail
    refine region_memo_f (B := W0.heap.size) (L := .val (.agg #[.int .i64 a1, .int .i64 a2]) :: .val (.agg #[.int .i64 b1, .int .i64 b2]) :: .val (.agg #[.int .i64 c1, .int .i64 c2]) :: .val (.agg #[.int .i64 d1, .int .i64 d2]) :: .val (.agg #[.int .i64 e1, .int .i64 e2]) :: .new 23 #[.int .i64 a1, .int .i64 a2, .int .i64 b1, .int .i64 b2, .int .i64 c1, .int .i64 c2, .int .i64 d1, .int .i64 d2, .int .i64 e1, .int .i64 e2] (some (5, 5)) :: .val (.bool true) :: .val (.bool false) :: []) (by kernel_rfl) (Nat.le_refl _) ((by exact trivial))
      ⟨fun a w R => ld_P (R.slot 5 rfl) (R.keep ow5 trivial) rfl rfl, fun a w R => ld_P (R.slot 6 rfl) (R.keep ow6 trivial) rfl rfl, fun a w R => ld_P (R.slot 7 rfl) (R.keep ow7 trivial) rfl rfl, fun a w R => ld_P (R.slot 8 rfl) (R.keep ow8 trivial) rfl rfl, fun a w R => ld_P (R.slot 9 rfl) (R.keep ow9 trivial) rfl rfl, fun a w R => bsP_5 (R.val 0) (R.val 1) (R.val 2) (R.val 3) (R.val 4), fun a w R => cl_n (enter_at Try.func11) (R.dep 5) (fun g hg => lawin5 t1_.out hg), fun a w R => notb (R.val 6), trivial⟩ (fun act_ W1 I => ?_)
    obtain ⟨gb22, ew22, lw22, ow22⟩ := I.new 5 rfl rfl rfl
    rw [I.act [(17, .agg #[.int .i64 a1, .int .i64 a2]), (18, .agg #[.int .i64 b1, .int .i64 b2]), (19, .agg #[.int .i64 c1, .int .i64 c2]), (20, .agg #[.int .i64 d1, .int .i64 d2]), (21, .agg #[.int .i64 e1, .int .i64 e2]), (22, .slice (some ⟨gb22, 0, none⟩) 5 5), (23, .bool true), (24, .bool false)]
      ⟨I.val 0, I.val 1, I.val 2, I.val 3, I.val 4, ew22, I.val 6, I.val 7, trivial⟩ rfl]
    change W0.heap.size ≤ gb22 at lw22
    have sW1 : W0.heap.size ≤ W1.heap.size := I.below.size
    replace ow5 := I.keep ow5 trivial
    replace ow6 := I.keep ow6 trivial
    replace ow7 := I.keep ow7 trivial
    replace ow8 := I.keep ow8 trivial
    replace ow9 := I.keep ow9 trivial
    have hW1 : Below w.heap.size w W1 := then_ hW0 I.below hW0.size
    clear ew22
    clear I
    simp only [List.foldl_cons, List.foldl_nil, List.setIfInBounds_toArray, List.set_cons_zero, List.set_cons_succ]
    go_upto_region 3 with fail
    refine region_memo_f (B := W1.heap.size) (L := .val (.agg #[.int .i64 a1, .int .i64 a2]) :: .val (.agg #[.int .i64 b1, .int .i64 b2]) :: .val (.agg #[.int .i64 c1, .int .i64 c2]) :: .val (.int .i64 (tn a1 a2 b1 b2 c1 c2)) :: .val (.int .i64 (tn a1 a2 b1 b2 c1 c2)) :: []) (by kernel_rfl) (Nat.le_refl _) ((by exact trivial))
      ⟨fun a w R => ld_P (R.slot 5 rfl) (R.keep ow5 trivial) rfl rfl, fun a w R => ld_P (R.slot 6 rfl) (R.keep ow6 trivial) rfl rfl, fun a w R => ld_P (R.slot 7 rfl) (R.keep ow7 trivial) rfl rfl, fun a w R => cl_ttt (enter_at Try.func13) (R.val 0) (R.val 1) (R.val 2) (Turn_is (in3_iff.2 ⟨(in5_iff.1 t1_.out).1, (in5_iff.1 t1_.out).2.1, (in5_iff.1 t1_.out).2.2.1⟩) rfl _), fun a w R => asg (R.val 3), trivial⟩ (fun act_ W2 I => ?_)
    rw [I.act [(26, .agg #[.int .i64 a1, .int .i64 a2]), (27, .agg #[.int .i64 b1, .int .i64 b2]), (28, .agg #[.int .i64 c1, .int .i64 c2]), (29, .int .i64 (tn a1 a2 b1 b2 c1 c2)), (11, .int .i64 (tn a1 a2 b1 b2 c1 c2))]
      ⟨I.val 0, I.val 1, I.val 2, I.val 3, I.val 4, trivial⟩ rfl]
    have sW2 : W1.heap.size ≤ W2.heap.size := I.below.size
    replace ow5 := I.keep ow5 trivial
    replace ow6 := I.keep ow6 trivial
    replace ow7 := I.keep ow7 trivial
    replace ow8 := I.keep ow8 trivial
    replace ow9 := I.keep ow9 trivial
    replace ow22 := I.keep ow22 trivial
    have hW2 : Below w.heap.size w W2 := then_ hW1 I.below hW1.size
    clear I
    simp only [List.foldl_cons, List.foldl_nil, List.setIfInBounds_toArray, List.set_cons_zero, List.set_cons_succ]
    go_upto_region 4 with fail
    refine region_memo (B := W2.heap.size) (L := .val (.bool true) :: .val (.bool false) :: .val (.bool false) :: .val (.agg #[.int .i64 b1, .int .i64 b2]) :: .val (.agg #[.int .i64 c1, .int .i64 c2]) :: .val (.agg #[.int .i64 a1, .int .i64 a2]) :: .val (.int .i64 (tn a1 a2 b1 b2 c1 c2)) :: .val (.int .i64 (tn a1 a2 b1 b2 c1 c2)) :: .val (.bool false) :: .val (.bool false) :: .val (.bool false) :: .val (.agg #[.int .i64 b1, .int .i64 b2]) :: .val (.agg #[.int .i64 a1, .int .i64 a2]) :: .val (.agg #[.int .i64 c1, .int .i64 c2]) :: .val (.int .i64 (-(tn a1 a2 b1 b2 c1 c2))) :: .val (.int .i64 (tn a1 a2 b1 b2 c1 c2)) :: .val (.int .i64 (-(tn a1 a2 b1 b2 c1 c2))) :: .val (.bool false) :: .val (.bool false) :: .val (.bool false) :: .val (.agg #[.int .i64 a1, .int .i64 a2]) :: .val (.agg #[.int .i64 a2, .int .i64 a1]) :: .val (.agg #[.int .i64 b1, .int .i64 b2]) :: .val (.agg #[.int .i64 b2, .int .i64 b1]) :: .val (.agg #[.int .i64 c1, .int .i64 c2]) :: .val (.agg #[.int .i64 c2, .int .i64 c1]) :: .val (.int .i64 (-(tn a1 a2 b1 b2 c1 c2))) :: .val (.int .i64 (tn a1 a2 b1 b2 c1 c2)) :: .val (.int .i64 (-(tn a1 a2 b1 b2 c1 c2))) :: .val (.bool false) :: .val (.bool false) :: []) (by kernel_rfl) (by kernel_rfl) (Nat.le_refl _) ((by exact trivial))
      ⟨fun a w R => cl_0 (enter_at Try.func12)  (awake_any _), fun a w R => notb (R.val 0), fun a w R => mv (R.val 1), fun a w R => ld_P (R.slot 6 rfl) (R.keep ow6.drawn trivial) rfl rfl, fun a w R => ld_P (R.slot 7 rfl) (R.keep ow7.drawn trivial) rfl rfl, fun a w R => ld_P (R.slot 5 rfl) (R.keep ow5.drawn trivial) rfl rfl, fun a w R => cl_ttt (enter_at Try.func13) (R.val 3) (R.val 4) (R.val 5) (Turn_is (in3_iff.2 ⟨(in5_iff.1 t1_.out).2.1, (in5_iff.1 t1_.out).2.2.1, (in5_iff.1 t1_.out).1⟩) tn_rot _), fun a w R => mv (R.slot 11 rfl), fun a w R => c_neq_tt (R.val 6) (R.val 7) (Try.underlying3) (by simp), fun a w R => pickn (R.val 2) (R.val 8), fun a w R => mv (R.val 9), fun a w R => ld_P (R.slot 6 rfl) (R.keep ow6.drawn trivial) rfl rfl, fun a w R => ld_P (R.slot 5 rfl) (R.keep ow5.drawn trivial) rfl rfl, fun a w R => ld_P (R.slot 7 rfl) (R.keep ow7.drawn trivial) rfl rfl, fun a w R => cl_ttt (enter_at Try.func13) (R.val 11) (R.val 12) (R.val 13) (Turn_is (in3_iff.2 ⟨(in5_iff.1 t1_.out).2.1, (in5_iff.1 t1_.out).1, (in5_iff.1 t1_.out).2.2.1⟩) tn_swap _), fun a w R => mv (R.slot 11 rfl), fun a w R => negi (R.val 15) (by first | rfl | exact tn_negw _ | (simp only [IntKind.wrap_i64]; omega)), fun a w R => c_neq_tt (R.val 14) (R.val 16) (Try.underlying3) (by simp), fun a w R => pickn (R.val 10) (R.val 17), fun a w R => mv (R.val 18), fun a w R => ld_P (R.slot 5 rfl) (R.keep ow5.drawn trivial) rfl rfl, fun a w R => cl_t (enter_at Try.func14) (R.val 20) (flip_any _), fun a w R => ld_P (R.slot 6 rfl) (R.keep ow6.drawn trivial) rfl rfl, fun a w R => cl_t (enter_at Try.func14) (R.val 22) (flip_any _), fun a w R => ld_P (R.slot 7 rfl) (R.keep ow7.drawn trivial) rfl rfl, fun a w R => cl_t (enter_at Try.func14) (R.val 24) (flip_any _), fun a w R => cl_ttt (enter_at Try.func13) (R.val 21) (R.val 23) (R.val 25) (Turn_is (in3_iff.2 ⟨(Rng.flip (in5_iff.1 t1_.out).1), (Rng.flip (in5_iff.1 t1_.out).2.1), (Rng.flip (in5_iff.1 t1_.out).2.2.1)⟩) tn_flip _), fun a w R => mv (R.slot 11 rfl), fun a w R => negi (R.val 27) (by first | rfl | exact tn_negw _ | (simp only [IntKind.wrap_i64]; omega)), fun a w R => c_neq_tt (R.val 26) (R.val 28) (Try.underlying3) (by simp), fun a w R => pickn (R.val 19) (R.val 29), trivial⟩ (fun act_ W3 I => ?_)
    rw [I.act [(30, .bool true), (31, .bool false), (32, .bool false), (33, .agg #[.int .i64 b1, .int .i64 b2]), (34, .agg #[.int .i64 c1, .int .i64 c2]), (35, .agg #[.int .i64 a1, .int .i64 a2]), (36, .int .i64 (tn a1 a2 b1 b2 c1 c2)), (37, .int .i64 (tn a1 a2 b1 b2 c1 c2)), (38, .bool false), (39, .bool false), (40, .bool false), (41, .agg #[.int .i64 b1, .int .i64 b2]), (42, .agg #[.int .i64 a1, .int .i64 a2]), (43, .agg #[.int .i64 c1, .int .i64 c2]), (44, .int .i64 (-(tn a1 a2 b1 b2 c1 c2))), (45, .int .i64 (tn a1 a2 b1 b2 c1 c2)), (46, .int .i64 (-(tn a1 a2 b1 b2 c1 c2))), (47, .bool false), (48, .bool false), (49, .bool false), (50, .agg #[.int .i64 a1, .int .i64 a2]), (51, .agg #[.int .i64 a2, .int .i64 a1]), (52, .agg #[.int .i64 b1, .int .i64 b2]), (53, .agg #[.int .i64 b2, .int .i64 b1]), (54, .agg #[.int .i64 c1, .int .i64 c2]), (55, .agg #[.int .i64 c2, .int .i64 c1]), (56, .int .i64 (-(tn a1 a2 b1 b2 c1 c2))), (57, .int .i64 (tn a1 a2 b1 b2 c1 c2)), (58, .int .i64 (-(tn a1 a2 b1 b2 c1 c2))), (59, .bool false), (60, .bool false)]
      ⟨I.val 0, I.val 1, I.val 2, I.val 3, I.val 4, I.val 5, I.val 6, I.val 7, I.val 8, I.val 9, I.val 10, I.val 11, I.val 12, I.val 13, I.val 14, I.val 15, I.val 16, I.val 17, I.val 18, I.val 19, I.val 20, I.val 21, I.val 22, I.val 23, I.val 24, I.val 25, I.val 26, I.val 27, I.val 28, I.val 29, I.val 30, trivial⟩ rfl]
    have sW3 : W2.heap.size ≤ W3.heap.size := I.below.size
    replace ow5 := I.keep ow5.drawn trivial
    replace ow6 := I.keep ow6.drawn trivial
    replace ow7 := I.keep ow7.drawn trivial
    replace ow8 := I.keep ow8.drawn trivial
    replace ow9 := I.keep ow9.drawn trivial
    replace ow22 := I.keep ow22.drawn trivial
    have hW3 : Below w.heap.size w W3 := then_ hW2.drew I.below hW2.size
    clear I
    simp only [List.foldl_cons, List.foldl_nil, List.setIfInBounds_toArray, List.set_cons_zero, List.set_cons_succ]
    rcases Bool.eq_false_or_eq_true (mtB a1 a2 b1 b2 c1 c2 d1 d2) with t2 | t2
    · have t2_ := Lib.hid t2
      clear t2
      go_upto_region 6 with fail
      refine region_memo_f (B := W3.heap.size) (L := .val (.agg #[.int .i64 a1, .int .i64 a2]) :: .val (.agg #[.int .i64 b1, .int .i64 b2]) :: .val (.agg #[.int .i64 c1, .int .i64 c2]) :: .val (.agg #[.int .i64 d1, .int .i64 d2]) :: .val (.bool true) :: .val (.bool true) :: []) (by kernel_rfl) (Nat.le_refl _) ((by exact trivial))
        ⟨fun a w R => ld_P (R.slot 5 rfl) (R.keep ow5 trivial) rfl rfl, fun a w R => ld_P (R.slot 6 rfl) (R.keep ow6 trivial) rfl rfl, fun a w R => ld_P (R.slot 7 rfl) (R.keep ow7 trivial) rfl rfl, fun a w R => ld_P (R.slot 8 rfl) (R.keep ow8 trivial) rfl rfl, fun a w R => cl_tttt (enter_at Try.func15) (R.val 0) (R.val 1) (R.val 2) (R.val 3) (Meet_is t2_.out _), fun a w R => asg (R.val 4), trivial⟩ (fun act_ W4 I => ?_)
      rw [I.act [(61, .agg #[.int .i64 a1, .int .i64 a2]), (62, .agg #[.int .i64 b1, .int .i64 b2]), (63, .agg #[.int .i64 c1, .int .i64 c2]), (64, .agg #[.int .i64 d1, .int .i64 d2]), (65, .bool true), (12, .bool true)]
        ⟨I.val 0, I.val 1, I.val 2, I.val 3, I.val 4, I.val 5, trivial⟩ rfl]
      have sW4 : W3.heap.size ≤ W4.heap.size := I.below.size
      replace ow5 := I.keep ow5 trivial
      replace ow6 := I.keep ow6 trivial
      replace ow7 := I.keep ow7 trivial
      replace ow8 := I.keep ow8 trivial
      replace ow9 := I.keep ow9 trivial
      replace ow22 := I.keep ow22 trivial
      have hW4 : Below w.heap.size w W4 := then_ hW3 I.below hW3.size
      clear I
      simp only [List.foldl_cons, List.foldl_nil, List.setIfInBounds_toArray, List.set_cons_zero, List.set_cons_succ]
      rcases Bool.eq_false_or_eq_true (onB a1 a2 b1 b2 c1 c2) with t3 | t3
      · have t3_ := Lib.hid t3
        clear t3
        go_upto_region 7 with fail
        refine region_memo (B := W4.heap.size) (L := .val (.agg #[.int .i64 b1, .int .i64 b2]) :: .val (.agg #[.int .i64 a1, .int .i64 a2]) :: .val (.agg #[.int .i64 c1, .int .i64 c2]) :: .val (.agg #[.int .i64 d1, .int .i64 d2]) :: .val (.bool true) :: .val (.bool true) :: .val (.bool false) :: .val (.bool false) :: .val (.agg #[.int .i64 c1, .int .i64 c2]) :: .val (.agg #[.int .i64 d1, .int .i64 d2]) :: .val (.agg #[.int .i64 a1, .int .i64 a2]) :: .val (.agg #[.int .i64 b1, .int .i64 b2]) :: .val (.bool true) :: .val (.bool true) :: .val (.bool false) :: .val (.bool false) :: .val (.bool false) :: .val (.agg #[.int .i64 a1, .int .i64 a2]) :: .val (.agg #[.int .i64 a2, .int .i64 a1]) :: .val (.agg #[.int .i64 b1, .int .i64 b2]) :: .val (.agg #[.int .i64 b2, .int .i64 b1]) :: .val (.agg #[.int .i64 c1, .int .i64 c2]) :: .val (.agg #[.int .i64 c2, .int .i64 c1]) :: .val (.agg #[.int .i64 d1, .int .i64 d2]) :: .val (.agg #[.int .i64 d2, .int .i64 d1]) :: .val (.bool true) :: .val (.bool true) :: .val (.bool false) :: .val (.bool false) :: .val (.bool false) :: .val (.agg #[.int .i64 a1, .int .i64 a2]) :: .val (.agg #[.int .i64 b1, .int .i64 b2]) :: .val (.agg #[.int .i64 c1, .int .i64 c2]) :: .val (.bool true) :: .val (.agg #[.int .i64 a1, .int .i64 a2]) :: .val (.agg #[.int .i64 c1, .int .i64 c2]) :: .val (.agg #[.int .i64 b1, .int .i64 b2]) :: .val (.bool true) :: .val (.bool false) :: .val (.bool false) :: []) (by kernel_rfl) (by kernel_rfl) (Nat.le_refl _) ((by exact trivial))
          ⟨fun a w R => ld_P (R.slot 6 rfl) (R.keep ow6.drawn trivial) rfl rfl, fun a w R => ld_P (R.slot 5 rfl) (R.keep ow5.drawn trivial) rfl rfl, fun a w R => ld_P (R.slot 7 rfl) (R.keep ow7.drawn trivial) rfl rfl, fun a w R => ld_P (R.slot 8 rfl) (R.keep ow8.drawn trivial) rfl rfl, fun a w R => cl_tttt (enter_at Try.func15) (R.val 0) (R.val 1) (R.val 2) (R.val 3) (Meet_is (mt_ba.trans t2_.out) _), fun a w R => mv (R.slot 12 rfl), fun a w R => cb_neq_tt (R.val 4) (R.val 5) rfl, fun a w R => mv (R.val 6), fun a w R => ld_P (R.slot 7 rfl) (R.keep ow7.drawn trivial) rfl rfl, fun a w R => ld_P (R.slot 8 rfl) (R.keep ow8.drawn trivial) rfl rfl, fun a w R => ld_P (R.slot 5 rfl) (R.keep ow5.drawn trivial) rfl rfl, fun a w R => ld_P (R.slot 6 rfl) (R.keep ow6.drawn trivial) rfl rfl, fun a w R => cl_tttt (enter_at Try.func15) (R.val 8) (R.val 9) (R.val 10) (R.val 11) (Meet_is (mt_cd.trans t2_.out) _), fun a w R => mv (R.slot 12 rfl), fun a w R => cb_neq_tt (R.val 12) (R.val 13) rfl, fun a w R => pickn (R.val 7) (R.val 14), fun a w R => mv (R.val 15), fun a w R => ld_P (R.slot 5 rfl) (R.keep ow5.drawn trivial) rfl rfl, fun a w R => cl_t (enter_at Try.func14) (R.val 17) (flip_any _), fun a w R => ld_P (R.slot 6 rfl) (R.keep ow6.drawn trivial) rfl rfl, fun a w R => cl_t (enter_at Try.func14) (R.val 19) (flip_any _), fun a w R => ld_P (R.slot 7 rfl) (R.keep ow7.drawn trivial) rfl rfl, fun a w R => cl_t (enter_at Try.func14) (R.val 21) (flip_any _), fun a w R => ld_P (R.slot 8 rfl) (R.keep ow8.drawn trivial) rfl rfl, fun a w R => cl_t (enter_at Try.func14) (R.val 23) (flip_any _), fun a w R => cl_tttt (enter_at Try.func15) (R.val 18) (R.val 20) (R.val 22) (R.val 24) (Meet_is (mt_flip.trans t2_.out) _), fun a w R => mv (R.slot 12 rfl), fun a w R => cb_neq_tt (R.val 25) (R.val 26) rfl, fun a w R => pickn (R.val 16) (R.val 27), fun a w R => mv (R.val 28), fun a w R => ld_P (R.slot 5 rfl) (R.keep ow5.drawn trivial) rfl rfl, fun a w R => ld_P (R.slot 6 rfl) (R.keep ow6.drawn trivial) rfl rfl, fun a w R => ld_P (R.slot 7 rfl) (R.keep ow7.drawn trivial) rfl rfl, fun a w R => cl_ttt (enter_at Try.func16) (R.val 30) (R.val 31) (R.val 32) (On_is t3_.out _), fun a w R => ld_P (R.slot 5 rfl) (R.keep ow5.drawn trivial) rfl rfl, fun a w R => ld_P (R.slot 7 rfl) (R.keep ow7.drawn trivial) rfl rfl, fun a w R => ld_P (R.slot 6 rfl) (R.keep ow6.drawn trivial) rfl rfl, fun a w R => cl_ttt (enter_at Try.func16) (R.val 34) (R.val 35) (R.val 36) (On_is (on_ac.trans t3_.out) _), fun a w R => cb_neq_tt (R.val 33) (R.val 37) rfl, fun a w R => pickn (R.val 29) (R.val 38), trivial⟩ (fun act_ W5 I => ?_)
        rw [I.act [(66, .agg #[.int .i64 b1, .int .i64 b2]), (67, .agg #[.int .i64 a1, .int .i64 a2]), (68, .agg #[.int .i64 c1, .int .i64 c2]), (69, .agg #[.int .i64 d1, .int .i64 d2]), (70, .bool true), (71, .bool true), (72, .bool false), (73, .bool false), (74, .agg #[.int .i64 c1, .int .i64 c2]), (75, .agg #[.int .i64 d1, .int .i64 d2]), (76, .agg #[.int .i64 a1, .int .i64 a2]), (77, .agg #[.int .i64 b1, .int .i64 b2]), (78, .bool true), (79, .bool true), (80, .bool false), (81, .bool false), (82, .bool false), (83, .agg #[.int .i64 a1, .int .i64 a2]), (84, .agg #[.int .i64 a2, .int .i64 a1]), (85, .agg #[.int .i64 b1, .int .i64 b2]), (86, .agg #[.int .i64 b2, .int .i64 b1]), (87, .agg #[.int .i64 c1, .int .i64 c2]), (88, .agg #[.int .i64 c2, .int .i64 c1]), (89, .agg #[.int .i64 d1, .int .i64 d2]), (90, .agg #[.int .i64 d2, .int .i64 d1]), (91, .bool true), (92, .bool true), (93, .bool false), (94, .bool false), (95, .bool false), (96, .agg #[.int .i64 a1, .int .i64 a2]), (97, .agg #[.int .i64 b1, .int .i64 b2]), (98, .agg #[.int .i64 c1, .int .i64 c2]), (99, .bool true), (100, .agg #[.int .i64 a1, .int .i64 a2]), (101, .agg #[.int .i64 c1, .int .i64 c2]), (102, .agg #[.int .i64 b1, .int .i64 b2]), (103, .bool true), (104, .bool false), (105, .bool false)]
          ⟨I.val 0, I.val 1, I.val 2, I.val 3, I.val 4, I.val 5, I.val 6, I.val 7, I.val 8, I.val 9, I.val 10, I.val 11, I.val 12, I.val 13, I.val 14, I.val 15, I.val 16, I.val 17, I.val 18, I.val 19, I.val 20, I.val 21, I.val 22, I.val 23, I.val 24, I.val 25, I.val 26, I.val 27, I.val 28, I.val 29, I.val 30, I.val 31, I.val 32, I.val 33, I.val 34, I.val 35, I.val 36, I.val 37, I.val 38, I.val 39, trivial⟩ rfl]
        have sW5 : W4.heap.size ≤ W5.heap.size := I.below.size
        replace ow5 := I.keep ow5.drawn trivial
        replace ow6 := I.keep ow6.drawn trivial
        replace ow7 := I.keep ow7.drawn trivial
        replace ow8 := I.keep ow8.drawn trivial
        replace ow9 := I.keep ow9.drawn trivial
        replace ow22 := I.keep ow22.drawn trivial
        have hW5 : Below w.heap.size w W5 := then_ hW4.drew I.below hW4.size
        clear I
        simp only [List.foldl_cons, List.foldl_nil, List.setIfInBounds_toArray, List.set_cons_zero, List.set_cons_succ]
        go_upto_region 9 with fail
        refine region_memo (B := W5.heap.size) (L := .val (.agg #[.int .i64 a1, .int .i64 a2]) :: .val (.agg #[.int .i64 e1, .int .i64 e2]) :: .val (.agg #[.int .i64 (a1 + e1), .int .i64 (a2 + e2)]) :: .val (.agg #[.int .i64 b1, .int .i64 b2]) :: .val (.agg #[.int .i64 e1, .int .i64 e2]) :: .val (.agg #[.int .i64 (b1 + e1), .int .i64 (b2 + e2)]) :: .val (.agg #[.int .i64 c1, .int .i64 c2]) :: .val (.agg #[.int .i64 e1, .int .i64 e2]) :: .val (.agg #[.int .i64 (c1 + e1), .int .i64 (c2 + e2)]) :: .val (.agg #[.int .i64 d1, .int .i64 d2]) :: .val (.agg #[.int .i64 e1, .int .i64 e2]) :: .val (.agg #[.int .i64 (d1 + e1), .int .i64 (d2 + e2)]) :: .blk 23 2 :: .blk 23 2 :: .blk 23 2 :: .blk 23 2 :: .put 13 23 #[.int .i64 (a1 + e1), .int .i64 (a2 + e2)] :: .put 14 23 #[.int .i64 (b1 + e1), .int .i64 (b2 + e2)] :: .put 15 23 #[.int .i64 (c1 + e1), .int .i64 (c2 + e2)] :: .put 16 23 #[.int .i64 (d1 + e1), .int .i64 (d2 + e2)] :: []) (by kernel_rfl) (by kernel_rfl) (Nat.le_refl _) ((by exact trivial))
          ⟨fun a w R => ld_P (R.slot 5 rfl) (R.keep ow5.drawn trivial) rfl rfl, fun a w R => ld_P (R.slot 9 rfl) (R.keep ow9.drawn trivial) rfl rfl, fun a w R => cl_tt (enter_at Try.func17) (R.val 0) (R.val 1) (move_any (in5_iff.1 t1_.out).1 (in5_iff.1 t1_.out).2.2.2.2 _), fun a w R => ld_P (R.slot 6 rfl) (R.keep ow6.drawn trivial) rfl rfl, fun a w R => ld_P (R.slot 9 rfl) (R.keep ow9.drawn trivial) rfl rfl, fun a w R => cl_tt (enter_at Try.func17) (R.val 3) (R.val 4) (move_any (in5_iff.1 t1_.out).2.1 (in5_iff.1 t1_.out).2.2.2.2 _), fun a w R => ld_P (R.slot 7 rfl) (R.keep ow7.drawn trivial) rfl rfl, fun a w R => ld_P (R.slot 9 rfl) (R.keep ow9.drawn trivial) rfl rfl, fun a w R => cl_tt (enter_at Try.func17) (R.val 6) (R.val 7) (move_any (in5_iff.1 t1_.out).2.2.1 (in5_iff.1 t1_.out).2.2.2.2 _), fun a w R => ld_P (R.slot 8 rfl) (R.keep ow8.drawn trivial) rfl rfl, fun a w R => ld_P (R.slot 9 rfl) (R.keep ow9.drawn trivial) rfl rfl, fun a w R => cl_tt (enter_at Try.func17) (R.val 9) (R.val 10) (move_any (in5_iff.1 t1_.out).2.2.2.1 (in5_iff.1 t1_.out).2.2.2.2 _), fun a w R => al_P, fun a w R => al_P, fun a w R => al_P, fun a w R => al_P, fun a w R => sb_P (R.dep 12) (R.val 2), fun a w R => sb_P (R.dep 13) (R.val 5), fun a w R => sb_P (R.dep 14) (R.val 8), fun a w R => sb_P (R.dep 15) (R.val 11), trivial⟩ (fun act_ W6 I => ?_)
        obtain ⟨gb13, ew13, lw13, ow13⟩ := I.put 16 rfl rfl
        obtain ⟨gb14, ew14, lw14, ow14⟩ := I.put 17 rfl rfl
        obtain ⟨gb15, ew15, lw15, ow15⟩ := I.put 18 rfl rfl
        obtain ⟨gb16, ew16, lw16, ow16⟩ := I.put 19 rfl rfl
        have nw13_14 := I.apart2 12 13 rfl rfl (by omega) rfl rfl rfl rfl ew13 ew14
        have nw13_15 := I.apart2 12 14 rfl rfl (by omega) rfl rfl rfl rfl ew13 ew15
        have nw13_16 := I.apart2 12 15 rfl rfl (by omega) rfl rfl rfl rfl ew13 ew16
        have nw14_15 := I.apart2 13 14 rfl rfl (by omega) rfl rfl rfl rfl ew14 ew15
        have nw14_16 := I.apart2 13 15 rfl rfl (by omega) rfl rfl rfl rfl ew14 ew16
        have nw15_16 := I.apart2 14 15 rfl rfl (by omega) rfl rfl rfl rfl ew15 ew16
        rw [I.act [(106, .agg #[.int .i64 a1, .int .i64 a2]), (107, .agg #[.int .i64 e1, .int .i64 e2]), (108, .agg #[.int .i64 (a1 + e1), .int .i64 (a2 + e2)]), (109, .agg #[.int .i64 b1, .int .i64 b2]), (110, .agg #[.int .i64 e1, .int .i64 e2]), (111, .agg #[.int .i64 (b1 + e1), .int .i64 (b2 + e2)]), (112, .agg #[.int .i64 c1, .int .i64 c2]), (113, .agg #[.int .i64 e1, .int .i64 e2]), (114, .agg #[.int .i64 (c1 + e1), .int .i64 (c2 + e2)]), (115, .agg #[.int .i64 d1, .int .i64 d2]), (116, .agg #[.int .i64 e1, .int .i64 e2]), (117, .agg #[.int .i64 (d1 + e1), .int .i64 (d2 + e2)]), (13, .pointer (some ⟨gb13, 0, none⟩)), (14, .pointer (some ⟨gb14, 0, none⟩)), (15, .pointer (some ⟨gb15, 0, none⟩)), (16, .pointer (some ⟨gb16, 0, none⟩))]
          ⟨I.val 0, I.val 1, I.val 2, I.val 3, I.val 4, I.val 5, I.val 6, I.val 7, I.val 8, I.val 9, I.val 10, I.val 11, ew13, ew14, ew15, ew16, trivial⟩ rfl]
        change W5.heap.size ≤ gb13 at lw13
        change W5.heap.size ≤ gb14 at lw14
        change W5.heap.size ≤ gb15 at lw15
        change W5.heap.size ≤ gb16 at lw16
        have sW6 : W5.heap.size ≤ W6.heap.size := I.below.size
        replace ow5 := I.keep ow5.drawn trivial
        replace ow6 := I.keep ow6.drawn trivial
        replace ow7 := I.keep ow7.drawn trivial
        replace ow8 := I.keep ow8.drawn trivial
        replace ow9 := I.keep ow9.drawn trivial
        replace ow22 := I.keep ow22.drawn trivial
        have hW6 : Below w.heap.size w W6 := then_ hW5.drew I.below hW5.size
        clear ew13 ew14 ew15 ew16
        clear I
        simp only [List.foldl_cons, List.foldl_nil, List.setIfInBounds_toArray, List.set_cons_zero, List.set_cons_succ]
        rcases Bool.eq_false_or_eq_true (in4 (a1 + e1) (a2 + e2) (b1 + e1) (b2 + e2) (c1 + e1) (c2 + e2) (d1 + e1) (d2 + e2)) with t4 | t4
        · have t4_ := Lib.hid t4
          clear t4
          rcases Bool.eq_false_or_eq_true (onB c1 c2 a1 a2 b1 b2) with t5 | t5
          · have t5_ := Lib.hid t5
            clear t5
            go_upto_region 10 with fail
            refine region_memo (B := W6.heap.size) (L := .val (.agg #[.int .i64 (a1 + e1), .int .i64 (a2 + e2)]) :: .val (.agg #[.int .i64 (b1 + e1), .int .i64 (b2 + e2)]) :: .val (.agg #[.int .i64 (c1 + e1), .int .i64 (c2 + e2)]) :: .val (.agg #[.int .i64 (d1 + e1), .int .i64 (d2 + e2)]) :: .new 23 #[.int .i64 (a1 + e1), .int .i64 (a2 + e2), .int .i64 (b1 + e1), .int .i64 (b2 + e2), .int .i64 (c1 + e1), .int .i64 (c2 + e2), .int .i64 (d1 + e1), .int .i64 (d2 + e2)] (some (4, 4)) :: .val (.bool true) :: .val (.bool false) :: .val (.bool false) :: .val (.agg #[.int .i64 (a1 + e1), .int .i64 (a2 + e2)]) :: .val (.agg #[.int .i64 (b1 + e1), .int .i64 (b2 + e2)]) :: .val (.agg #[.int .i64 (c1 + e1), .int .i64 (c2 + e2)]) :: .val (.int .i64 (tn a1 a2 b1 b2 c1 c2)) :: .val (.int .i64 (tn a1 a2 b1 b2 c1 c2)) :: .val (.bool true) :: .val (.bool true) :: .val (.agg #[.int .i64 (a1 + e1), .int .i64 (a2 + e2)]) :: .val (.agg #[.int .i64 (b1 + e1), .int .i64 (b2 + e2)]) :: .val (.agg #[.int .i64 (c1 + e1), .int .i64 (c2 + e2)]) :: .val (.agg #[.int .i64 (d1 + e1), .int .i64 (d2 + e2)]) :: .val (.bool true) :: .val (.bool true) :: .val (.bool true) :: .val (.bool true) :: .val (.bool true) :: .val (.agg #[.int .i64 (c1 + e1), .int .i64 (c2 + e2)]) :: .val (.agg #[.int .i64 (a1 + e1), .int .i64 (a2 + e2)]) :: .val (.agg #[.int .i64 (b1 + e1), .int .i64 (b2 + e2)]) :: .val (.bool true) :: .val (.agg #[.int .i64 c1, .int .i64 c2]) :: .val (.agg #[.int .i64 a1, .int .i64 a2]) :: .val (.agg #[.int .i64 b1, .int .i64 b2]) :: .val (.bool true) :: .val (.bool true) :: .val (.bool true) :: .val (.bool true) :: .val (.bool true) :: []) (by kernel_rfl) (by kernel_rfl) (Nat.le_refl _) ((by exact trivial))
              ⟨fun a w R => ld_P (R.slot 13 rfl) (R.keep ow13.drawn trivial) rfl rfl, fun a w R => ld_P (R.slot 14 rfl) (R.keep ow14.drawn trivial) rfl rfl, fun a w R => ld_P (R.slot 15 rfl) (R.keep ow15.drawn trivial) rfl rfl, fun a w R => ld_P (R.slot 16 rfl) (R.keep ow16.drawn trivial) rfl rfl, fun a w R => bsP_4 (R.val 0) (R.val 1) (R.val 2) (R.val 3), fun a w R => cl_n (enter_at Try.func11) (R.dep 4) (fun g hg => lawin4 t4_.out hg), fun a w R => notb (R.val 5), fun a w R => mv (R.val 6), fun a w R => ld_P (R.slot 13 rfl) (R.keep ow13.drawn trivial) rfl rfl, fun a w R => ld_P (R.slot 14 rfl) (R.keep ow14.drawn trivial) rfl rfl, fun a w R => ld_P (R.slot 15 rfl) (R.keep ow15.drawn trivial) rfl rfl, fun a w R => cl_ttt (enter_at Try.func13) (R.val 8) (R.val 9) (R.val 10) (Turn_is (in3_iff.2 ⟨(in4_iff.1 t4_.out).1, (in4_iff.1 t4_.out).2.1, (in4_iff.1 t4_.out).2.2.1⟩) tn_move _), fun a w R => mv (R.slot 11 rfl), fun a w R => c_eql_tt (R.val 11) (R.val 12) (Try.underlying3) (by simp), fun a w R => mv (R.val 13), fun a w R => ld_P (R.slot 13 rfl) (R.keep ow13.drawn trivial) rfl rfl, fun a w R => ld_P (R.slot 14 rfl) (R.keep ow14.drawn trivial) rfl rfl, fun a w R => ld_P (R.slot 15 rfl) (R.keep ow15.drawn trivial) rfl rfl, fun a w R => ld_P (R.slot 16 rfl) (R.keep ow16.drawn trivial) rfl rfl, fun a w R => cl_tttt (enter_at Try.func15) (R.val 15) (R.val 16) (R.val 17) (R.val 18) (Meet_is ((mt_move (in4_iff.2 ⟨(in5_iff.1 t1_.out).1, (in5_iff.1 t1_.out).2.1, (in5_iff.1 t1_.out).2.2.1, (in5_iff.1 t1_.out).2.2.2.1⟩) (in4_iff.2 ⟨(in4_iff.1 t4_.out).1, (in4_iff.1 t4_.out).2.1, (in4_iff.1 t4_.out).2.2.1, (in4_iff.1 t4_.out).2.2.2⟩)).trans t2_.out) _), fun a w R => mv (R.slot 12 rfl), fun a w R => cb_eql_tt (R.val 19) (R.val 20) rfl, fun a w R => pickt (R.val 14) (R.val 21), fun a w R => mv (R.val 22), fun a w R => ld_P (R.slot 15 rfl) (R.keep ow15.drawn trivial) rfl rfl, fun a w R => ld_P (R.slot 13 rfl) (R.keep ow13.drawn trivial) rfl rfl, fun a w R => ld_P (R.slot 14 rfl) (R.keep ow14.drawn trivial) rfl rfl, fun a w R => cl_ttt (enter_at Try.func16) (R.val 24) (R.val 25) (R.val 26) (On_is ((onB_move (in3_iff.2 ⟨(in5_iff.1 t1_.out).2.2.1, (in5_iff.1 t1_.out).1, (in5_iff.1 t1_.out).2.1⟩) (in3_iff.2 ⟨(in4_iff.1 t4_.out).2.2.1, (in4_iff.1 t4_.out).1, (in4_iff.1 t4_.out).2.1⟩)).trans t5_.out) _), fun a w R => ld_P (R.slot 7 rfl) (R.keep ow7.drawn trivial) rfl rfl, fun a w R => ld_P (R.slot 5 rfl) (R.keep ow5.drawn trivial) rfl rfl, fun a w R => ld_P (R.slot 6 rfl) (R.keep ow6.drawn trivial) rfl rfl, fun a w R => cl_ttt (enter_at Try.func16) (R.val 28) (R.val 29) (R.val 30) (On_is t5_.out _), fun a w R => cb_eql_tt (R.val 27) (R.val 31) rfl, fun a w R => pickt (R.val 23) (R.val 32), fun a w R => pickn (R.val 7) (R.val 33), fun a w R => asg (R.val 34), trivial⟩ (fun act_ W7 I => ?_)
            obtain ⟨gb122, ew122, lw122, ow122⟩ := I.new 4 rfl rfl rfl
            rw [I.act [(118, .agg #[.int .i64 (a1 + e1), .int .i64 (a2 + e2)]), (119, .agg #[.int .i64 (b1 + e1), .int .i64 (b2 + e2)]), (120, .agg #[.int .i64 (c1 + e1), .int .i64 (c2 + e2)]), (121, .agg #[.int .i64 (d1 + e1), .int .i64 (d2 + e2)]), (122, .slice (some ⟨gb122, 0, none⟩) 4 4), (123, .bool true), (124, .bool false), (125, .bool false), (126, .agg #[.int .i64 (a1 + e1), .int .i64 (a2 + e2)]), (127, .agg #[.int .i64 (b1 + e1), .int .i64 (b2 + e2)]), (128, .agg #[.int .i64 (c1 + e1), .int .i64 (c2 + e2)]), (129, .int .i64 (tn a1 a2 b1 b2 c1 c2)), (130, .int .i64 (tn a1 a2 b1 b2 c1 c2)), (131, .bool true), (132, .bool true), (133, .agg #[.int .i64 (a1 + e1), .int .i64 (a2 + e2)]), (134, .agg #[.int .i64 (b1 + e1), .int .i64 (b2 + e2)]), (135, .agg #[.int .i64 (c1 + e1), .int .i64 (c2 + e2)]), (136, .agg #[.int .i64 (d1 + e1), .int .i64 (d2 + e2)]), (137, .bool true), (138, .bool true), (139, .bool true), (140, .bool true), (141, .bool true), (142, .agg #[.int .i64 (c1 + e1), .int .i64 (c2 + e2)]), (143, .agg #[.int .i64 (a1 + e1), .int .i64 (a2 + e2)]), (144, .agg #[.int .i64 (b1 + e1), .int .i64 (b2 + e2)]), (145, .bool true), (146, .agg #[.int .i64 c1, .int .i64 c2]), (147, .agg #[.int .i64 a1, .int .i64 a2]), (148, .agg #[.int .i64 b1, .int .i64 b2]), (149, .bool true), (150, .bool true), (151, .bool true), (152, .bool true), (10, .bool true)]
              ⟨I.val 0, I.val 1, I.val 2, I.val 3, ew122, I.val 5, I.val 6, I.val 7, I.val 8, I.val 9, I.val 10, I.val 11, I.val 12, I.val 13, I.val 14, I.val 15, I.val 16, I.val 17, I.val 18, I.val 19, I.val 20, I.val 21, I.val 22, I.val 23, I.val 24, I.val 25, I.val 26, I.val 27, I.val 28, I.val 29, I.val 30, I.val 31, I.val 32, I.val 33, I.val 34, I.val 35, trivial⟩ rfl]
            change W6.heap.size ≤ gb122 at lw122
            have sW7 : W6.heap.size ≤ W7.heap.size := I.below.size
            replace ow5 := I.keep ow5.drawn trivial
            replace ow6 := I.keep ow6.drawn trivial
            replace ow7 := I.keep ow7.drawn trivial
            replace ow8 := I.keep ow8.drawn trivial
            replace ow9 := I.keep ow9.drawn trivial
            replace ow22 := I.keep ow22.drawn trivial
            replace ow13 := I.keep ow13.drawn trivial
            replace ow14 := I.keep ow14.drawn trivial
            replace ow15 := I.keep ow15.drawn trivial
            replace ow16 := I.keep ow16.drawn trivial
            have hW7 : Below w.heap.size w W7 := then_ hW6.drew I.below hW6.size
            clear ew122
            clear I
            simp only [List.foldl_cons, List.foldl_nil, List.setIfInBounds_toArray, List.set_cons_zero, List.set_cons_succ]
            clear ow5 ow6 ow7 ow8 ow9 ow22 ow13 ow14 ow15 ow16 ow122
            go_wp2
            try simp only [setCell_drawn]
            refine bodyPost_ret (by first | (simp [results, Try.results3, go_sem]; done) | (simp [results, Try.results3, go_sem]; rfl)) rfl ⟨?_, hW7⟩
            rfl
          · have t5_ := Lib.hid t5
            clear t5
            go_upto_region 10 with fail
            refine region_memo (B := W6.heap.size) (L := .val (.agg #[.int .i64 (a1 + e1), .int .i64 (a2 + e2)]) :: .val (.agg #[.int .i64 (b1 + e1), .int .i64 (b2 + e2)]) :: .val (.agg #[.int .i64 (c1 + e1), .int .i64 (c2 + e2)]) :: .val (.agg #[.int .i64 (d1 + e1), .int .i64 (d2 + e2)]) :: .new 23 #[.int .i64 (a1 + e1), .int .i64 (a2 + e2), .int .i64 (b1 + e1), .int .i64 (b2 + e2), .int .i64 (c1 + e1), .int .i64 (c2 + e2), .int .i64 (d1 + e1), .int .i64 (d2 + e2)] (some (4, 4)) :: .val (.bool true) :: .val (.bool false) :: .val (.bool false) :: .val (.agg #[.int .i64 (a1 + e1), .int .i64 (a2 + e2)]) :: .val (.agg #[.int .i64 (b1 + e1), .int .i64 (b2 + e2)]) :: .val (.agg #[.int .i64 (c1 + e1), .int .i64 (c2 + e2)]) :: .val (.int .i64 (tn a1 a2 b1 b2 c1 c2)) :: .val (.int .i64 (tn a1 a2 b1 b2 c1 c2)) :: .val (.bool true) :: .val (.bool true) :: .val (.agg #[.int .i64 (a1 + e1), .int .i64 (a2 + e2)]) :: .val (.agg #[.int .i64 (b1 + e1), .int .i64 (b2 + e2)]) :: .val (.agg #[.int .i64 (c1 + e1), .int .i64 (c2 + e2)]) :: .val (.agg #[.int .i64 (d1 + e1), .int .i64 (d2 + e2)]) :: .val (.bool true) :: .val (.bool true) :: .val (.bool true) :: .val (.bool true) :: .val (.bool true) :: .val (.agg #[.int .i64 (c1 + e1), .int .i64 (c2 + e2)]) :: .val (.agg #[.int .i64 (a1 + e1), .int .i64 (a2 + e2)]) :: .val (.agg #[.int .i64 (b1 + e1), .int .i64 (b2 + e2)]) :: .val (.bool false) :: .val (.agg #[.int .i64 c1, .int .i64 c2]) :: .val (.agg #[.int .i64 a1, .int .i64 a2]) :: .val (.agg #[.int .i64 b1, .int .i64 b2]) :: .val (.bool false) :: .val (.bool true) :: .val (.bool true) :: .val (.bool true) :: .val (.bool true) :: []) (by kernel_rfl) (by kernel_rfl) (Nat.le_refl _) ((by exact trivial))
              ⟨fun a w R => ld_P (R.slot 13 rfl) (R.keep ow13.drawn trivial) rfl rfl, fun a w R => ld_P (R.slot 14 rfl) (R.keep ow14.drawn trivial) rfl rfl, fun a w R => ld_P (R.slot 15 rfl) (R.keep ow15.drawn trivial) rfl rfl, fun a w R => ld_P (R.slot 16 rfl) (R.keep ow16.drawn trivial) rfl rfl, fun a w R => bsP_4 (R.val 0) (R.val 1) (R.val 2) (R.val 3), fun a w R => cl_n (enter_at Try.func11) (R.dep 4) (fun g hg => lawin4 t4_.out hg), fun a w R => notb (R.val 5), fun a w R => mv (R.val 6), fun a w R => ld_P (R.slot 13 rfl) (R.keep ow13.drawn trivial) rfl rfl, fun a w R => ld_P (R.slot 14 rfl) (R.keep ow14.drawn trivial) rfl rfl, fun a w R => ld_P (R.slot 15 rfl) (R.keep ow15.drawn trivial) rfl rfl, fun a w R => cl_ttt (enter_at Try.func13) (R.val 8) (R.val 9) (R.val 10) (Turn_is (in3_iff.2 ⟨(in4_iff.1 t4_.out).1, (in4_iff.1 t4_.out).2.1, (in4_iff.1 t4_.out).2.2.1⟩) tn_move _), fun a w R => mv (R.slot 11 rfl), fun a w R => c_eql_tt (R.val 11) (R.val 12) (Try.underlying3) (by simp), fun a w R => mv (R.val 13), fun a w R => ld_P (R.slot 13 rfl) (R.keep ow13.drawn trivial) rfl rfl, fun a w R => ld_P (R.slot 14 rfl) (R.keep ow14.drawn trivial) rfl rfl, fun a w R => ld_P (R.slot 15 rfl) (R.keep ow15.drawn trivial) rfl rfl, fun a w R => ld_P (R.slot 16 rfl) (R.keep ow16.drawn trivial) rfl rfl, fun a w R => cl_tttt (enter_at Try.func15) (R.val 15) (R.val 16) (R.val 17) (R.val 18) (Meet_is ((mt_move (in4_iff.2 ⟨(in5_iff.1 t1_.out).1, (in5_iff.1 t1_.out).2.1, (in5_iff.1 t1_.out).2.2.1, (in5_iff.1 t1_.out).2.2.2.1⟩) (in4_iff.2 ⟨(in4_iff.1 t4_.out).1, (in4_iff.1 t4_.out).2.1, (in4_iff.1 t4_.out).2.2.1, (in4_iff.1 t4_.out).2.2.2⟩)).trans t2_.out) _), fun a w R => mv (R.slot 12 rfl), fun a w R => cb_eql_tt (R.val 19) (R.val 20) rfl, fun a w R => pickt (R.val 14) (R.val 21), fun a w R => mv (R.val 22), fun a w R => ld_P (R.slot 15 rfl) (R.keep ow15.drawn trivial) rfl rfl, fun a w R => ld_P (R.slot 13 rfl) (R.keep ow13.drawn trivial) rfl rfl, fun a w R => ld_P (R.slot 14 rfl) (R.keep ow14.drawn trivial) rfl rfl, fun a w R => cl_ttt (enter_at Try.func16) (R.val 24) (R.val 25) (R.val 26) (On_is ((onB_move (in3_iff.2 ⟨(in5_iff.1 t1_.out).2.2.1, (in5_iff.1 t1_.out).1, (in5_iff.1 t1_.out).2.1⟩) (in3_iff.2 ⟨(in4_iff.1 t4_.out).2.2.1, (in4_iff.1 t4_.out).1, (in4_iff.1 t4_.out).2.1⟩)).trans t5_.out) _), fun a w R => ld_P (R.slot 7 rfl) (R.keep ow7.drawn trivial) rfl rfl, fun a w R => ld_P (R.slot 5 rfl) (R.keep ow5.drawn trivial) rfl rfl, fun a w R => ld_P (R.slot 6 rfl) (R.keep ow6.drawn trivial) rfl rfl, fun a w R => cl_ttt (enter_at Try.func16) (R.val 28) (R.val 29) (R.val 30) (On_is t5_.out _), fun a w R => cb_eql_tt (R.val 27) (R.val 31) rfl, fun a w R => pickt (R.val 23) (R.val 32), fun a w R => pickn (R.val 7) (R.val 33), fun a w R => asg (R.val 34), trivial⟩ (fun act_ W7 I => ?_)
            obtain ⟨gb122, ew122, lw122, ow122⟩ := I.new 4 rfl rfl rfl
            rw [I.act [(118, .agg #[.int .i64 (a1 + e1), .int .i64 (a2 + e2)]), (119, .agg #[.int .i64 (b1 + e1), .int .i64 (b2 + e2)]), (120, .agg #[.int .i64 (c1 + e1), .int .i64 (c2 + e2)]), (121, .agg #[.int .i64 (d1 + e1), .int .i64 (d2 + e2)]), (122, .slice (some ⟨gb122, 0, none⟩) 4 4), (123, .bool true), (124, .bool false), (125, .bool false), (126, .agg #[.int .i64 (a1 + e1), .int .i64 (a2 + e2)]), (127, .agg #[.int .i64 (b1 + e1), .int .i64 (b2 + e2)]), (128, .agg #[.int .i64 (c1 + e1), .int .i64 (c2 + e2)]), (129, .int .i64 (tn a1 a2 b1 b2 c1 c2)), (130, .int .i64 (tn a1 a2 b1 b2 c1 c2)), (131, .bool true), (132, .bool true), (133, .agg #[.int .i64 (a1 + e1), .int .i64 (a2 + e2)]), (134, .agg #[.int .i64 (b1 + e1), .int .i64 (b2 + e2)]), (135, .agg #[.int .i64 (c1 + e1), .int .i64 (c2 + e2)]), (136, .agg #[.int .i64 (d1 + e1), .int .i64 (d2 + e2)]), (137, .bool true), (138, .bool true), (139, .bool true), (140, .bool true), (141, .bool true), (142, .agg #[.int .i64 (c1 + e1), .int .i64 (c2 + e2)]), (143, .agg #[.int .i64 (a1 + e1), .int .i64 (a2 + e2)]), (144, .agg #[.int .i64 (b1 + e1), .int .i64 (b2 + e2)]), (145, .bool false), (146, .agg #[.int .i64 c1, .int .i64 c2]), (147, .agg #[.int .i64 a1, .int .i64 a2]), (148, .agg #[.int .i64 b1, .int .i64 b2]), (149, .bool false), (150, .bool true), (151, .bool true), (152, .bool true), (10, .bool true)]
              ⟨I.val 0, I.val 1, I.val 2, I.val 3, ew122, I.val 5, I.val 6, I.val 7, I.val 8, I.val 9, I.val 10, I.val 11, I.val 12, I.val 13, I.val 14, I.val 15, I.val 16, I.val 17, I.val 18, I.val 19, I.val 20, I.val 21, I.val 22, I.val 23, I.val 24, I.val 25, I.val 26, I.val 27, I.val 28, I.val 29, I.val 30, I.val 31, I.val 32, I.val 33, I.val 34, I.val 35, trivial⟩ rfl]
            change W6.heap.size ≤ gb122 at lw122
            have sW7 : W6.heap.size ≤ W7.heap.size := I.below.size
            replace ow5 := I.keep ow5.drawn trivial
            replace ow6 := I.keep ow6.drawn trivial
            replace ow7 := I.keep ow7.drawn trivial
            replace ow8 := I.keep ow8.drawn trivial
            replace ow9 := I.keep ow9.drawn trivial
            replace ow22 := I.keep ow22.drawn trivial
            replace ow13 := I.keep ow13.drawn trivial
            replace ow14 := I.keep ow14.drawn trivial
            replace ow15 := I.keep ow15.drawn trivial
            replace ow16 := I.keep ow16.drawn trivial
            have hW7 : Below w.heap.size w W7 := then_ hW6.drew I.below hW6.size
            clear ew122
            clear I
            simp only [List.foldl_cons, List.foldl_nil, List.setIfInBounds_toArray, List.set_cons_zero, List.set_cons_succ]
            clear ow5 ow6 ow7 ow8 ow9 ow22 ow13 ow14 ow15 ow16 ow122
            go_wp2
            try simp only [setCell_drawn]
            refine bodyPost_ret (by first | (simp [results, Try.results3, go_sem]; done) | (simp [results, Try.results3, go_sem]; rfl)) rfl ⟨?_, hW7⟩
            rfl
        · have t4_ := Lib.hid t4
          clear t4
          go_upto_region 10 with fail
          refine region_memo (B := W6.heap.size) (L := .val (.agg #[.int .i64 (a1 + e1), .int .i64 (a2 + e2)]) :: .val (.agg #[.int .i64 (b1 + e1), .int .i64 (b2 + e2)]) :: .val (.agg #[.int .i64 (c1 + e1), .int .i64 (c2 + e2)]) :: .val (.agg #[.int .i64 (d1 + e1), .int .i64 (d2 + e2)]) :: .new 23 #[.int .i64 (a1 + e1), .int .i64 (a2 + e2), .int .i64 (b1 + e1), .int .i64 (b2 + e2), .int .i64 (c1 + e1), .int .i64 (c2 + e2), .int .i64 (d1 + e1), .int .i64 (d2 + e2)] (some (4, 4)) :: .val (.bool false) :: .val (.bool true) :: .val (.bool true) :: .skip :: .skip :: .skip :: .skip :: .skip :: .skip :: .skip :: .skip :: .skip :: .skip :: .skip :: .skip :: .skip :: .skip :: .skip :: .skip :: .skip :: .skip :: .skip :: .skip :: .skip :: .skip :: .skip :: .skip :: .skip :: .skip :: .val (.bool true) :: .val (.bool true) :: []) (by kernel_rfl) (by kernel_rfl) (Nat.le_refl _) ((by exact trivial))
            ⟨fun a w R => ld_P (R.slot 13 rfl) (R.keep ow13.drawn trivial) rfl rfl, fun a w R => ld_P (R.slot 14 rfl) (R.keep ow14.drawn trivial) rfl rfl, fun a w R => ld_P (R.slot 15 rfl) (R.keep ow15.drawn trivial) rfl rfl, fun a w R => ld_P (R.slot 16 rfl) (R.keep ow16.drawn trivial) rfl rfl, fun a w R => bsP_4 (R.val 0) (R.val 1) (R.val 2) (R.val 3), fun a w R => cl_n (enter_at Try.func11) (R.dep 4) (fun g hg => lawin4 t4_.out hg), fun a w R => notb (R.val 5), fun a w R => mv (R.val 6), fun a w R => True.intro, fun a w R => True.intro, fun a w R => True.intro, fun a w R => True.intro, fun a w R => True.intro, fun a w R => True.intro, fun a w R => True.intro, fun a w R => True.intro, fun a w R => True.intro, fun a w R => True.intro, fun a w R => True.intro, fun a w R => True.intro, fun a w R => True.intro, fun a w R => True.intro, fun a w R => True.intro, fun a w R => True.intro, fun a w R => True.intro, fun a w R => True.intro, fun a w R => True.intro, fun a w R => True.intro, fun a w R => True.intro, fun a w R => True.intro, fun a w R => True.intro, fun a w R => True.intro, fun a w R => True.intro, fun a w R => True.intro, fun a w R => picko (R.val 7) (R.goneS 33), fun a w R => asg (R.val 34), trivial⟩ (fun act_ W7 I => ?_)
          obtain ⟨gb122, ew122, lw122, ow122⟩ := I.new 4 rfl rfl rfl
          rw [I.act [(118, .agg #[.int .i64 (a1 + e1), .int .i64 (a2 + e2)]), (119, .agg #[.int .i64 (b1 + e1), .int .i64 (b2 + e2)]), (120, .agg #[.int .i64 (c1 + e1), .int .i64 (c2 + e2)]), (121, .agg #[.int .i64 (d1 + e1), .int .i64 (d2 + e2)]), (122, .slice (some ⟨gb122, 0, none⟩) 4 4), (123, .bool false), (124, .bool true), (125, .bool true), (126, undef), (127, undef), (128, undef), (129, undef), (130, undef), (131, undef), (132, undef), (133, undef), (134, undef), (135, undef), (136, undef), (137, undef), (138, undef), (139, undef), (140, undef), (141, undef), (142, undef), (143, undef), (144, undef), (145, undef), (146, undef), (147, undef), (148, undef), (149, undef), (150, undef), (151, undef), (152, .bool true), (10, .bool true)]
            ⟨I.val 0, I.val 1, I.val 2, I.val 3, ew122, I.val 5, I.val 6, I.val 7, I.gone 8, I.gone 9, I.gone 10, I.gone 11, I.gone 12, I.gone 13, I.gone 14, I.gone 15, I.gone 16, I.gone 17, I.gone 18, I.gone 19, I.gone 20, I.gone 21, I.gone 22, I.gone 23, I.gone 24, I.gone 25, I.gone 26, I.gone 27, I.gone 28, I.gone 29, I.gone 30, I.gone 31, I.gone 32, I.gone 33, I.val 34, I.val 35, trivial⟩ rfl]
          change W6.heap.size ≤ gb122 at lw122
          have sW7 : W6.heap.size ≤ W7.heap.size := I.below.size
          replace ow5 := I.keep ow5.drawn trivial
          replace ow6 := I.keep ow6.drawn trivial
          replace ow7 := I.keep ow7.drawn trivial
          replace ow8 := I.keep ow8.drawn trivial
          replace ow9 := I.keep ow9.drawn trivial
          replace ow22 := I.keep ow22.drawn trivial
          replace ow13 := I.keep ow13.drawn trivial
          replace ow14 := I.keep ow14.drawn trivial
          replace ow15 := I.keep ow15.drawn trivial
          replace ow16 := I.keep ow16.drawn trivial
          have hW7 : Below w.heap.size w W7 := then_ hW6.drew I.below hW6.size
          clear ew122
          clear I
          simp only [List.foldl_cons, List.foldl_nil, List.setIfInBounds_toArray, List.set_cons_zero, List.set_cons_succ]
          clear ow5 ow6 ow7 ow8 ow9 ow22 ow13 ow14 ow15 ow16 ow122
          go_wp2
          try simp only [setCell_drawn]
          refine bodyPost_ret (by first | (simp [results, Try.results3, go_sem]; done) | (simp [results, Try.results3, go_sem]; rfl)) rfl ⟨?_, hW7⟩
          rfl
      · have t3_ := Lib.hid t3
        clear t3
        go_upto_region 7 with fail
        refine region_memo (B := W4.heap.size) (L := .val (.agg #[.int .i64 b1, .int .i64 b2]) :: .val (.agg #[.int .i64 a1, .int .i64 a2]) :: .val (.agg #[.int .i64 c1, .int .i64 c2]) :: .val (.agg #[.int .i64 d1, .int .i64 d2]) :: .val (.bool true) :: .val (.bool true) :: .val (.bool false) :: .val (.bool false) :: .val (.agg #[.int .i64 c1, .int .i64 c2]) :: .val (.agg #[.int .i64 d1, .int .i64 d2]) :: .val (.agg #[.int .i64 a1, .int .i64 a2]) :: .val (.agg #[.int .i64 b1, .int .i64 b2]) :: .val (.bool true) :: .val (.bool true) :: .val (.bool false) :: .val (.bool false) :: .val (.bool false) :: .val (.agg #[.int .i64 a1, .int .i64 a2]) :: .val (.agg #[.int .i64 a2, .int .i64 a1]) :: .val (.agg #[.int .i64 b1, .int .i64 b2]) :: .val (.agg #[.int .i64 b2, .int .i64 b1]) :: .val (.agg #[.int .i64 c1, .int .i64 c2]) :: .val (.agg #[.int .i64 c2, .int .i64 c1]) :: .val (.agg #[.int .i64 d1, .int .i64 d2]) :: .val (.agg #[.int .i64 d2, .int .i64 d1]) :: .val (.bool true) :: .val (.bool true) :: .val (.bool false) :: .val (.bool false) :: .val (.bool false) :: .val (.agg #[.int .i64 a1, .int .i64 a2]) :: .val (.agg #[.int .i64 b1, .int .i64 b2]) :: .val (.agg #[.int .i64 c1, .int .i64 c2]) :: .val (.bool false) :: .val (.agg #[.int .i64 a1, .int .i64 a2]) :: .val (.agg #[.int .i64 c1, .int .i64 c2]) :: .val (.agg #[.int .i64 b1, .int .i64 b2]) :: .val (.bool false) :: .val (.bool false) :: .val (.bool false) :: []) (by kernel_rfl) (by kernel_rfl) (Nat.le_refl _) ((by exact trivial))
          ⟨fun a w R => ld_P (R.slot 6 rfl) (R.keep ow6.drawn trivial) rfl rfl, fun a w R => ld_P (R.slot 5 rfl) (R.keep ow5.drawn trivial) rfl rfl, fun a w R => ld_P (R.slot 7 rfl) (R.keep ow7.drawn trivial) rfl rfl, fun a w R => ld_P (R.slot 8 rfl) (R.keep ow8.drawn trivial) rfl rfl, fun a w R => cl_tttt (enter_at Try.func15) (R.val 0) (R.val 1) (R.val 2) (R.val 3) (Meet_is (mt_ba.trans t2_.out) _), fun a w R => mv (R.slot 12 rfl), fun a w R => cb_neq_tt (R.val 4) (R.val 5) rfl, fun a w R => mv (R.val 6), fun a w R => ld_P (R.slot 7 rfl) (R.keep ow7.drawn trivial) rfl rfl, fun a w R => ld_P (R.slot 8 rfl) (R.keep ow8.drawn trivial) rfl rfl, fun a w R => ld_P (R.slot 5 rfl) (R.keep ow5.drawn trivial) rfl rfl, fun a w R => ld_P (R.slot 6 rfl) (R.keep ow6.drawn trivial) rfl rfl, fun a w R => cl_tttt (enter_at Try.func15) (R.val 8) (R.val 9) (R.val 10) (R.val 11) (Meet_is (mt_cd.trans t2_.out) _), fun a w R => mv (R.slot 12 rfl), fun a w R => cb_neq_tt (R.val 12) (R.val 13) rfl, fun a w R => pickn (R.val 7) (R.val 14), fun a w R => mv (R.val 15), fun a w R => ld_P (R.slot 5 rfl) (R.keep ow5.drawn trivial) rfl rfl, fun a w R => cl_t (enter_at Try.func14) (R.val 17) (flip_any _), fun a w R => ld_P (R.slot 6 rfl) (R.keep ow6.drawn trivial) rfl rfl, fun a w R => cl_t (enter_at Try.func14) (R.val 19) (flip_any _), fun a w R => ld_P (R.slot 7 rfl) (R.keep ow7.drawn trivial) rfl rfl, fun a w R => cl_t (enter_at Try.func14) (R.val 21) (flip_any _), fun a w R => ld_P (R.slot 8 rfl) (R.keep ow8.drawn trivial) rfl rfl, fun a w R => cl_t (enter_at Try.func14) (R.val 23) (flip_any _), fun a w R => cl_tttt (enter_at Try.func15) (R.val 18) (R.val 20) (R.val 22) (R.val 24) (Meet_is (mt_flip.trans t2_.out) _), fun a w R => mv (R.slot 12 rfl), fun a w R => cb_neq_tt (R.val 25) (R.val 26) rfl, fun a w R => pickn (R.val 16) (R.val 27), fun a w R => mv (R.val 28), fun a w R => ld_P (R.slot 5 rfl) (R.keep ow5.drawn trivial) rfl rfl, fun a w R => ld_P (R.slot 6 rfl) (R.keep ow6.drawn trivial) rfl rfl, fun a w R => ld_P (R.slot 7 rfl) (R.keep ow7.drawn trivial) rfl rfl, fun a w R => cl_ttt (enter_at Try.func16) (R.val 30) (R.val 31) (R.val 32) (On_is t3_.out _), fun a w R => ld_P (R.slot 5 rfl) (R.keep ow5.drawn trivial) rfl rfl, fun a w R => ld_P (R.slot 7 rfl) (R.keep ow7.drawn trivial) rfl rfl, fun a w R => ld_P (R.slot 6 rfl) (R.keep ow6.drawn trivial) rfl rfl, fun a w R => cl_ttt (enter_at Try.func16) (R.val 34) (R.val 35) (R.val 36) (On_is (on_ac.trans t3_.out) _), fun a w R => cb_neq_tt (R.val 33) (R.val 37) rfl, fun a w R => pickn (R.val 29) (R.val 38), trivial⟩ (fun act_ W5 I => ?_)
        rw [I.act [(66, .agg #[.int .i64 b1, .int .i64 b2]), (67, .agg #[.int .i64 a1, .int .i64 a2]), (68, .agg #[.int .i64 c1, .int .i64 c2]), (69, .agg #[.int .i64 d1, .int .i64 d2]), (70, .bool true), (71, .bool true), (72, .bool false), (73, .bool false), (74, .agg #[.int .i64 c1, .int .i64 c2]), (75, .agg #[.int .i64 d1, .int .i64 d2]), (76, .agg #[.int .i64 a1, .int .i64 a2]), (77, .agg #[.int .i64 b1, .int .i64 b2]), (78, .bool true), (79, .bool true), (80, .bool false), (81, .bool false), (82, .bool false), (83, .agg #[.int .i64 a1, .int .i64 a2]), (84, .agg #[.int .i64 a2, .int .i64 a1]), (85, .agg #[.int .i64 b1, .int .i64 b2]), (86, .agg #[.int .i64 b2, .int .i64 b1]), (87, .agg #[.int .i64 c1, .int .i64 c2]), (88, .agg #[.int .i64 c2, .int .i64 c1]), (89, .agg #[.int .i64 d1, .int .i64 d2]), (90, .agg #[.int .i64 d2, .int .i64 d1]), (91, .bool true), (92, .bool true), (93, .bool false), (94, .bool false), (95, .bool false), (96, .agg #[.int .i64 a1, .int .i64 a2]), (97, .agg #[.int .i64 b1, .int .i64 b2]), (98, .agg #[.int .i64 c1, .int .i64 c2]), (99, .bool false), (100, .agg #[.int .i64 a1, .int .i64 a2]), (101, .agg #[.int .i64 c1, .int .i64 c2]), (102, .agg #[.int .i64 b1, .int .i64 b2]), (103, .bool false), (104, .bool false), (105, .bool false)]
          ⟨I.val 0, I.val 1, I.val 2, I.val 3, I.val 4, I.val 5, I.val 6, I.val 7, I.val 8, I.val 9, I.val 10, I.val 11, I.val 12, I.val 13, I.val 14, I.val 15, I.val 16, I.val 17, I.val 18, I.val 19, I.val 20, I.val 21, I.val 22, I.val 23, I.val 24, I.val 25, I.val 26, I.val 27, I.val 28, I.val 29, I.val 30, I.val 31, I.val 32, I.val 33, I.val 34, I.val 35, I.val 36, I.val 37, I.val 38, I.val 39, trivial⟩ rfl]
        have sW5 : W4.heap.size ≤ W5.heap.size := I.below.size
        replace ow5 := I.keep ow5.drawn trivial
        replace ow6 := I.keep ow6.drawn trivial
        replace ow7 := I.keep ow7.drawn trivial
        replace ow8 := I.keep ow8.drawn trivial
        replace ow9 := I.keep ow9.drawn trivial
        replace ow22 := I.keep ow22.drawn trivial
        have hW5 : Below w.heap.size w W5 := then_ hW4.drew I.below hW4.size
        clear I
        simp only [List.foldl_cons, List.foldl_nil, List.setIfInBounds_toArray, List.set_cons_zero, List.set_cons_succ]
        go_upto_region 9 with fail
        refine region_memo (B := W5.heap.size) (L := .val (.agg #[.int .i64 a1, .int .i64 a2]) :: .val (.agg #[.int .i64 e1, .int .i64 e2]) :: .val (.agg #[.int .i64 (a1 + e1), .int .i64 (a2 + e2)]) :: .val (.agg #[.int .i64 b1, .int .i64 b2]) :: .val (.agg #[.int .i64 e1, .int .i64 e2]) :: .val (.agg #[.int .i64 (b1 + e1), .int .i64 (b2 + e2)]) :: .val (.agg #[.int .i64 c1, .int .i64 c2]) :: .val (.agg #[.int .i64 e1, .int .i64 e2]) :: .val (.agg #[.int .i64 (c1 + e1), .int .i64 (c2 + e2)]) :: .val (.agg #[.int .i64 d1, .int .i64 d2]) :: .val (.agg #[.int .i64 e1, .int .i64 e2]) :: .val (.agg #[.int .i64 (d1 + e1), .int .i64 (d2 + e2)]) :: .blk 23 2 :: .blk 23 2 :: .blk 23 2 :: .blk 23 2 :: .put 13 23 #[.int .i64 (a1 + e1), .int .i64 (a2 + e2)] :: .put 14 23 #[.int .i64 (b1 + e1), .int .i64 (b2 + e2)] :: .put 15 23 #[.int .i64 (c1 + e1), .int .i64 (c2 + e2)] :: .put 16 23 #[.int .i64 (d1 + e1), .int .i64 (d2 + e2)] :: []) (by kernel_rfl) (by kernel_rfl) (Nat.le_refl _) ((by exact trivial))
          ⟨fun a w R => ld_P (R.slot 5 rfl) (R.keep ow5.drawn trivial) rfl rfl, fun a w R => ld_P (R.slot 9 rfl) (R.keep ow9.drawn trivial) rfl rfl, fun a w R => cl_tt (enter_at Try.func17) (R.val 0) (R.val 1) (move_any (in5_iff.1 t1_.out).1 (in5_iff.1 t1_.out).2.2.2.2 _), fun a w R => ld_P (R.slot 6 rfl) (R.keep ow6.drawn trivial) rfl rfl, fun a w R => ld_P (R.slot 9 rfl) (R.keep ow9.drawn trivial) rfl rfl, fun a w R => cl_tt (enter_at Try.func17) (R.val 3) (R.val 4) (move_any (in5_iff.1 t1_.out).2.1 (in5_iff.1 t1_.out).2.2.2.2 _), fun a w R => ld_P (R.slot 7 rfl) (R.keep ow7.drawn trivial) rfl rfl, fun a w R => ld_P (R.slot 9 rfl) (R.keep ow9.drawn trivial) rfl rfl, fun a w R => cl_tt (enter_at Try.func17) (R.val 6) (R.val 7) (move_any (in5_iff.1 t1_.out).2.2.1 (in5_iff.1 t1_.out).2.2.2.2 _), fun a w R => ld_P (R.slot 8 rfl) (R.keep ow8.drawn trivial) rfl rfl, fun a w R => ld_P (R.slot 9 rfl) (R.keep ow9.drawn trivial) rfl rfl, fun a w R => cl_tt (enter_at Try.func17) (R.val 9) (R.val 10) (move_any (in5_iff.1 t1_.out).2.2.2.1 (in5_iff.1 t1_.out).2.2.2.2 _), fun a w R => al_P, fun a w R => al_P, fun a w R => al_P, fun a w R => al_P, fun a w R => sb_P (R.dep 12) (R.val 2), fun a w R => sb_P (R.dep 13) (R.val 5), fun a w R => sb_P (R.dep 14) (R.val 8), fun a w R => sb_P (R.dep 15) (R.val 11), trivial⟩ (fun act_ W6 I => ?_)
        obtain ⟨gb13, ew13, lw13, ow13⟩ := I.put 16 rfl rfl
        obtain ⟨gb14, ew14, lw14, ow14⟩ := I.put 17 rfl rfl
        obtain ⟨gb15, ew15, lw15, ow15⟩ := I.put 18 rfl rfl
        obtain ⟨gb16, ew16, lw16, ow16⟩ := I.put 19 rfl rfl
        have nw13_14 := I.apart2 12 13 rfl rfl (by omega) rfl rfl rfl rfl ew13 ew14
        have nw13_15 := I.apart2 12 14 rfl rfl (by omega) rfl rfl rfl rfl ew13 ew15
        have nw13_16 := I.apart2 12 15 rfl rfl (by omega) rfl rfl rfl rfl ew13 ew16
        have nw14_15 := I.apart2 13 14 rfl rfl (by omega) rfl rfl rfl rfl ew14 ew15
        have nw14_16 := I.apart2 13 15 rfl rfl (by omega) rfl rfl rfl rfl ew14 ew16
        have nw15_16 := I.apart2 14 15 rfl rfl (by omega) rfl rfl rfl rfl ew15 ew16
        rw [I.act [(106, .agg #[.int .i64 a1, .int .i64 a2]), (107, .agg #[.int .i64 e1, .int .i64 e2]), (108, .agg #[.int .i64 (a1 + e1), .int .i64 (a2 + e2)]), (109, .agg #[.int .i64 b1, .int .i64 b2]), (110, .agg #[.int .i64 e1, .int .i64 e2]), (111, .agg #[.int .i64 (b1 + e1), .int .i64 (b2 + e2)]), (112, .agg #[.int .i64 c1, .int .i64 c2]), (113, .agg #[.int .i64 e1, .int .i64 e2]), (114, .agg #[.int .i64 (c1 + e1), .int .i64 (c2 + e2)]), (115, .agg #[.int .i64 d1, .int .i64 d2]), (116, .agg #[.int .i64 e1, .int .i64 e2]), (117, .agg #[.int .i64 (d1 + e1), .int .i64 (d2 + e2)]), (13, .pointer (some ⟨gb13, 0, none⟩)), (14, .pointer (some ⟨gb14, 0, none⟩)), (15, .pointer (some ⟨gb15, 0, none⟩)), (16, .pointer (some ⟨gb16, 0, none⟩))]
          ⟨I.val 0, I.val 1, I.val 2, I.val 3, I.val 4, I.val 5, I.val 6, I.val 7, I.val 8, I.val 9, I.val 10, I.val 11, ew13, ew14, ew15, ew16, trivial⟩ rfl]
        change W5.heap.size ≤ gb13 at lw13
        change W5.heap.size ≤ gb14 at lw14
        change W5.heap.size ≤ gb15 at lw15
        change W5.heap.size ≤ gb16 at lw16
        have sW6 : W5.heap.size ≤ W6.heap.size := I.below.size
        replace ow5 := I.keep ow5.drawn trivial
        replace ow6 := I.keep ow6.drawn trivial
        replace ow7 := I.keep ow7.drawn trivial
        replace ow8 := I.keep ow8.drawn trivial
        replace ow9 := I.keep ow9.drawn trivial
        replace ow22 := I.keep ow22.drawn trivial
        have hW6 : Below w.heap.size w W6 := then_ hW5.drew I.below hW5.size
        clear ew13 ew14 ew15 ew16
        clear I
        simp only [List.foldl_cons, List.foldl_nil, List.setIfInBounds_toArray, List.set_cons_zero, List.set_cons_succ]
        rcases Bool.eq_false_or_eq_true (in4 (a1 + e1) (a2 + e2) (b1 + e1) (b2 + e2) (c1 + e1) (c2 + e2) (d1 + e1) (d2 + e2)) with t6 | t6
        · have t6_ := Lib.hid t6
          clear t6
          rcases Bool.eq_false_or_eq_true (onB c1 c2 a1 a2 b1 b2) with t7 | t7
          · have t7_ := Lib.hid t7
            clear t7
            go_upto_region 10 with fail
            refine region_memo (B := W6.heap.size) (L := .val (.agg #[.int .i64 (a1 + e1), .int .i64 (a2 + e2)]) :: .val (.agg #[.int .i64 (b1 + e1), .int .i64 (b2 + e2)]) :: .val (.agg #[.int .i64 (c1 + e1), .int .i64 (c2 + e2)]) :: .val (.agg #[.int .i64 (d1 + e1), .int .i64 (d2 + e2)]) :: .new 23 #[.int .i64 (a1 + e1), .int .i64 (a2 + e2), .int .i64 (b1 + e1), .int .i64 (b2 + e2), .int .i64 (c1 + e1), .int .i64 (c2 + e2), .int .i64 (d1 + e1), .int .i64 (d2 + e2)] (some (4, 4)) :: .val (.bool true) :: .val (.bool false) :: .val (.bool false) :: .val (.agg #[.int .i64 (a1 + e1), .int .i64 (a2 + e2)]) :: .val (.agg #[.int .i64 (b1 + e1), .int .i64 (b2 + e2)]) :: .val (.agg #[.int .i64 (c1 + e1), .int .i64 (c2 + e2)]) :: .val (.int .i64 (tn a1 a2 b1 b2 c1 c2)) :: .val (.int .i64 (tn a1 a2 b1 b2 c1 c2)) :: .val (.bool true) :: .val (.bool true) :: .val (.agg #[.int .i64 (a1 + e1), .int .i64 (a2 + e2)]) :: .val (.agg #[.int .i64 (b1 + e1), .int .i64 (b2 + e2)]) :: .val (.agg #[.int .i64 (c1 + e1), .int .i64 (c2 + e2)]) :: .val (.agg #[.int .i64 (d1 + e1), .int .i64 (d2 + e2)]) :: .val (.bool true) :: .val (.bool true) :: .val (.bool true) :: .val (.bool true) :: .val (.bool true) :: .val (.agg #[.int .i64 (c1 + e1), .int .i64 (c2 + e2)]) :: .val (.agg #[.int .i64 (a1 + e1), .int .i64 (a2 + e2)]) :: .val (.agg #[.int .i64 (b1 + e1), .int .i64 (b2 + e2)]) :: .val (.bool true) :: .val (.agg #[.int .i64 c1, .int .i64 c2]) :: .val (.agg #[.int .i64 a1, .int .i64 a2]) :: .val (.agg #[.int .i64 b1, .int .i64 b2]) :: .val (.bool true) :: .val (.bool true) :: .val (.bool true) :: .val (.bool true) :: .val (.bool true) :: []) (by kernel_rfl) (by kernel_rfl) (Nat.le_refl _) ((by exact trivial))
              ⟨fun a w R => ld_P (R.slot 13 rfl) (R.keep ow13.drawn trivial) rfl rfl, fun a w R => ld_P (R.slot 14 rfl) (R.keep ow14.drawn trivial) rfl rfl, fun a w R => ld_P (R.slot 15 rfl) (R.keep ow15.drawn trivial) rfl rfl, fun a w R => ld_P (R.slot 16 rfl) (R.keep ow16.drawn trivial) rfl rfl, fun a w R => bsP_4 (R.val 0) (R.val 1) (R.val 2) (R.val 3), fun a w R => cl_n (enter_at Try.func11) (R.dep 4) (fun g hg => lawin4 t6_.out hg), fun a w R => notb (R.val 5), fun a w R => mv (R.val 6), fun a w R => ld_P (R.slot 13 rfl) (R.keep ow13.drawn trivial) rfl rfl, fun a w R => ld_P (R.slot 14 rfl) (R.keep ow14.drawn trivial) rfl rfl, fun a w R => ld_P (R.slot 15 rfl) (R.keep ow15.drawn trivial) rfl rfl, fun a w R => cl_ttt (enter_at Try.func13) (R.val 8) (R.val 9) (R.val 10) (Turn_is (in3_iff.2 ⟨(in4_iff.1 t6_.out).1, (in4_iff.1 t6_.out).2.1, (in4_iff.1 t6_.out).2.2.1⟩) tn_move _), fun a w R => mv (R.slot 11 rfl), fun a w R => c_eql_tt (R.val 11) (R.val 12) (Try.underlying3) (by simp), fun a w R => mv (R.val 13), fun a w R => ld_P (R.slot 13 rfl) (R.keep ow13.drawn trivial) rfl rfl, fun a w R => ld_P (R.slot 14 rfl) (R.keep ow14.drawn trivial) rfl rfl, fun a w R => ld_P (R.slot 15 rfl) (R.keep ow15.drawn trivial) rfl rfl, fun a w R => ld_P (R.slot 16 rfl) (R.keep ow16.drawn trivial) rfl rfl, fun a w R => cl_tttt (enter_at Try.func15) (R.val 15) (R.val 16) (R.val 17) (R.val 18) (Meet_is ((mt_move (in4_iff.2 ⟨(in5_iff.1 t1_.out).1, (in5_iff.1 t1_.out).2.1, (in5_iff.1 t1_.out).2.2.1, (in5_iff.1 t1_.out).2.2.2.1⟩) (in4_iff.2 ⟨(in4_iff.1 t6_.out).1, (in4_iff.1 t6_.out).2.1, (in4_iff.1 t6_.out).2.2.1, (in4_iff.1 t6_.out).2.2.2⟩)).trans t2_.out) _), fun a w R => mv (R.slot 12 rfl), fun a w R => cb_eql_tt (R.val 19) (R.val 20) rfl, fun a w R => pickt (R.val 14) (R.val 21), fun a w R => mv (R.val 22), fun a w R => ld_P (R.slot 15 rfl) (R.keep ow15.drawn trivial) rfl rfl, fun a w R => ld_P (R.slot 13 rfl) (R.keep ow13.drawn trivial) rfl rfl, fun a w R => ld_P (R.slot 14 rfl) (R.keep ow14.drawn trivial) rfl rfl, fun a w R => cl_ttt (enter_at Try.func16) (R.val 24) (R.val 25) (R.val 26) (On_is ((onB_move (in3_iff.2 ⟨(in5_iff.1 t1_.out).2.2.1, (in5_iff.1 t1_.out).1, (in5_iff.1 t1_.out).2.1⟩) (in3_iff.2 ⟨(in4_iff.1 t6_.out).2.2.1, (in4_iff.1 t6_.out).1, (in4_iff.1 t6_.out).2.1⟩)).trans t7_.out) _), fun a w R => ld_P (R.slot 7 rfl) (R.keep ow7.drawn trivial) rfl rfl, fun a w R => ld_P (R.slot 5 rfl) (R.keep ow5.drawn trivial) rfl rfl, fun a w R => ld_P (R.slot 6 rfl) (R.keep ow6.drawn trivial) rfl rfl, fun a w R => cl_ttt (enter_at Try.func16) (R.val 28) (R.val 29) (R.val 30) (On_is t7_.out _), fun a w R => cb_eql_tt (R.val 27) (R.val 31) rfl, fun a w R => pickt (R.val 23) (R.val 32), fun a w R => pickn (R.val 7) (R.val 33), fun a w R => asg (R.val 34), trivial⟩ (fun act_ W7 I => ?_)
            obtain ⟨gb122, ew122, lw122, ow122⟩ := I.new 4 rfl rfl rfl
            rw [I.act [(118, .agg #[.int .i64 (a1 + e1), .int .i64 (a2 + e2)]), (119, .agg #[.int .i64 (b1 + e1), .int .i64 (b2 + e2)]), (120, .agg #[.int .i64 (c1 + e1), .int .i64 (c2 + e2)]), (121, .agg #[.int .i64 (d1 + e1), .int .i64 (d2 + e2)]), (122, .slice (some ⟨gb122, 0, none⟩) 4 4), (123, .bool true), (124, .bool false), (125, .bool false), (126, .agg #[.int .i64 (a1 + e1), .int .i64 (a2 + e2)]), (127, .agg #[.int .i64 (b1 + e1), .int .i64 (b2 + e2)]), (128, .agg #[.int .i64 (c1 + e1), .int .i64 (c2 + e2)]), (129, .int .i64 (tn a1 a2 b1 b2 c1 c2)), (130, .int .i64 (tn a1 a2 b1 b2 c1 c2)), (131, .bool true), (132, .bool true), (133, .agg #[.int .i64 (a1 + e1), .int .i64 (a2 + e2)]), (134, .agg #[.int .i64 (b1 + e1), .int .i64 (b2 + e2)]), (135, .agg #[.int .i64 (c1 + e1), .int .i64 (c2 + e2)]), (136, .agg #[.int .i64 (d1 + e1), .int .i64 (d2 + e2)]), (137, .bool true), (138, .bool true), (139, .bool true), (140, .bool true), (141, .bool true), (142, .agg #[.int .i64 (c1 + e1), .int .i64 (c2 + e2)]), (143, .agg #[.int .i64 (a1 + e1), .int .i64 (a2 + e2)]), (144, .agg #[.int .i64 (b1 + e1), .int .i64 (b2 + e2)]), (145, .bool true), (146, .agg #[.int .i64 c1, .int .i64 c2]), (147, .agg #[.int .i64 a1, .int .i64 a2]), (148, .agg #[.int .i64 b1, .int .i64 b2]), (149, .bool true), (150, .bool true), (151, .bool true), (152, .bool true), (10, .bool true)]
              ⟨I.val 0, I.val 1, I.val 2, I.val 3, ew122, I.val 5, I.val 6, I.val 7, I.val 8, I.val 9, I.val 10, I.val 11, I.val 12, I.val 13, I.val 14, I.val 15, I.val 16, I.val 17, I.val 18, I.val 19, I.val 20, I.val 21, I.val 22, I.val 23, I.val 24, I.val 25, I.val 26, I.val 27, I.val 28, I.val 29, I.val 30, I.val 31, I.val 32, I.val 33, I.val 34, I.val 35, trivial⟩ rfl]
            change W6.heap.size ≤ gb122 at lw122
            have sW7 : W6.heap.size ≤ W7.heap.size := I.below.size
            replace ow5 := I.keep ow5.drawn trivial
            replace ow6 := I.keep ow6.drawn trivial
            replace ow7 := I.keep ow7.drawn trivial
            replace ow8 := I.keep ow8.drawn trivial
            replace ow9 := I.keep ow9.drawn trivial
            replace ow22 := I.keep ow22.drawn trivial
            replace ow13 := I.keep ow13.drawn trivial
            replace ow14 := I.keep ow14.drawn trivial
            replace ow15 := I.keep ow15.drawn trivial
            replace ow16 := I.keep ow16.drawn trivial
            have hW7 : Below w.heap.size w W7 := then_ hW6.drew I.below hW6.size
            clear ew122
            clear I
            simp only [List.foldl_cons, List.foldl_nil, List.setIfInBounds_toArray, List.set_cons_zero, List.set_cons_succ]
            clear ow5 ow6 ow7 ow8 ow9 ow22 ow13 ow14 ow15 ow16 ow122
            go_wp2
            try simp only [setCell_drawn]
            refine bodyPost_ret (by first | (simp [results, Try.results3, go_sem]; done) | (simp [results, Try.results3, go_sem]; rfl)) rfl ⟨?_, hW7⟩
            rfl
          · have t7_ := Lib.hid t7
            clear t7
            go_upto_region 10 with fail
            refine region_memo (B := W6.heap.size) (L := .val (.agg #[.int .i64 (a1 + e1), .int .i64 (a2 + e2)]) :: .val (.agg #[.int .i64 (b1 + e1), .int .i64 (b2 + e2)]) :: .val (.agg #[.int .i64 (c1 + e1), .int .i64 (c2 + e2)]) :: .val (.agg #[.int .i64 (d1 + e1), .int .i64 (d2 + e2)]) :: .new 23 #[.int .i64 (a1 + e1), .int .i64 (a2 + e2), .int .i64 (b1 + e1), .int .i64 (b2 + e2), .int .i64 (c1 + e1), .int .i64 (c2 + e2), .int .i64 (d1 + e1), .int .i64 (d2 + e2)] (some (4, 4)) :: .val (.bool true) :: .val (.bool false) :: .val (.bool false) :: .val (.agg #[.int .i64 (a1 + e1), .int .i64 (a2 + e2)]) :: .val (.agg #[.int .i64 (b1 + e1), .int .i64 (b2 + e2)]) :: .val (.agg #[.int .i64 (c1 + e1), .int .i64 (c2 + e2)]) :: .val (.int .i64 (tn a1 a2 b1 b2 c1 c2)) :: .val (.int .i64 (tn a1 a2 b1 b2 c1 c2)) :: .val (.bool true) :: .val (.bool true) :: .val (.agg #[.int .i64 (a1 + e1), .int .i64 (a2 + e2)]) :: .val (.agg #[.int .i64 (b1 + e1), .int .i64 (b2 + e2)]) :: .val (.agg #[.int .i64 (c1 + e1), .int .i64 (c2 + e2)]) :: .val (.agg #[.int .i64 (d1 + e1), .int .i64 (d2 + e2)]) :: .val (.bool true) :: .val (.bool true) :: .val (.bool true) :: .val (.bool true) :: .val (.bool true) :: .val (.agg #[.int .i64 (c1 + e1), .int .i64 (c2 + e2)]) :: .val (.agg #[.int .i64 (a1 + e1), .int .i64 (a2 + e2)]) :: .val (.agg #[.int .i64 (b1 + e1), .int .i64 (b2 + e2)]) :: .val (.bool false) :: .val (.agg #[.int .i64 c1, .int .i64 c2]) :: .val (.agg #[.int .i64 a1, .int .i64 a2]) :: .val (.agg #[.int .i64 b1, .int .i64 b2]) :: .val (.bool false) :: .val (.bool true) :: .val (.bool true) :: .val (.bool true) :: .val (.bool true) :: []) (by kernel_rfl) (by kernel_rfl) (Nat.le_refl _) ((by exact trivial))
              ⟨fun a w R => ld_P (R.slot 13 rfl) (R.keep ow13.drawn trivial) rfl rfl, fun a w R => ld_P (R.slot 14 rfl) (R.keep ow14.drawn trivial) rfl rfl, fun a w R => ld_P (R.slot 15 rfl) (R.keep ow15.drawn trivial) rfl rfl, fun a w R => ld_P (R.slot 16 rfl) (R.keep ow16.drawn trivial) rfl rfl, fun a w R => bsP_4 (R.val 0) (R.val 1) (R.val 2) (R.val 3), fun a w R => cl_n (enter_at Try.func11) (R.dep 4) (fun g hg => lawin4 t6_.out hg), fun a w R => notb (R.val 5), fun a w R => mv (R.val 6), fun a w R => ld_P (R.slot 13 rfl) (R.keep ow13.drawn trivial) rfl rfl, fun a w R => ld_P (R.slot 14 rfl) (R.keep ow14.drawn trivial) rfl rfl, fun a w R => ld_P (R.slot 15 rfl) (R.keep ow15.drawn trivial) rfl rfl, fun a w R => cl_ttt (enter_at Try.func13) (R.val 8) (R.val 9) (R.val 10) (Turn_is (in3_iff.2 ⟨(in4_iff.1 t6_.out).1, (in4_iff.1 t6_.out).2.1, (in4_iff.1 t6_.out).2.2.1⟩) tn_move _), fun a w R => mv (R.slot 11 rfl), fun a w R => c_eql_tt (R.val 11) (R.val 12) (Try.underlying3) (by simp), fun a w R => mv (R.val 13), fun a w R => ld_P (R.slot 13 rfl) (R.keep ow13.drawn trivial) rfl rfl, fun a w R => ld_P (R.slot 14 rfl) (R.keep ow14.drawn trivial) rfl rfl, fun a w R => ld_P (R.slot 15 rfl) (R.keep ow15.drawn trivial) rfl rfl, fun a w R => ld_P (R.slot 16 rfl) (R.keep ow16.drawn trivial) rfl rfl, fun a w R => cl_tttt (enter_at Try.func15) (R.val 15) (R.val 16) (R.val 17) (R.val 18) (Meet_is ((mt_move (in4_iff.2 ⟨(in5_iff.1 t1_.out).1, (in5_iff.1 t1_.out).2.1, (in5_iff.1 t1_.out).2.2.1, (in5_iff.1 t1_.out).2.2.2.1⟩) (in4_iff.2 ⟨(in4_iff.1 t6_.out).1, (in4_iff.1 t6_.out).2.1, (in4_iff.1 t6_.out).2.2.1, (in4_iff.1 t6_.out).2.2.2⟩)).trans t2_.out) _), fun a w R => mv (R.slot 12 rfl), fun a w R => cb_eql_tt (R.val 19) (R.val 20) rfl, fun a w R => pickt (R.val 14) (R.val 21), fun a w R => mv (R.val 22), fun a w R => ld_P (R.slot 15 rfl) (R.keep ow15.drawn trivial) rfl rfl, fun a w R => ld_P (R.slot 13 rfl) (R.keep ow13.drawn trivial) rfl rfl, fun a w R => ld_P (R.slot 14 rfl) (R.keep ow14.drawn trivial) rfl rfl, fun a w R => cl_ttt (enter_at Try.func16) (R.val 24) (R.val 25) (R.val 26) (On_is ((onB_move (in3_iff.2 ⟨(in5_iff.1 t1_.out).2.2.1, (in5_iff.1 t1_.out).1, (in5_iff.1 t1_.out).2.1⟩) (in3_iff.2 ⟨(in4_iff.1 t6_.out).2.2.1, (in4_iff.1 t6_.out).1, (in4_iff.1 t6_.out).2.1⟩)).trans t7_.out) _), fun a w R => ld_P (R.slot 7 rfl) (R.keep ow7.drawn trivial) rfl rfl, fun a w R => ld_P (R.slot 5 rfl) (R.keep ow5.drawn trivial) rfl rfl, fun a w R => ld_P (R.slot 6 rfl) (R.keep ow6.drawn trivial) rfl rfl, fun a w R => cl_ttt (enter_at Try.func16) (R.val 28) (R.val 29) (R.val 30) (On_is t7_.out _), fun a w R => cb_eql_tt (R.val 27) (R.val 31) rfl, fun a w R => pickt (R.val 23) (R.val 32), fun a w R => pickn (R.val 7) (R.val 33), fun a w R => asg (R.val 34), trivial⟩ (fun act_ W7 I => ?_)
            obtain ⟨gb122, ew122, lw122, ow122⟩ := I.new 4 rfl rfl rfl
            rw [I.act [(118, .agg #[.int .i64 (a1 + e1), .int .i64 (a2 + e2)]), (119, .agg #[.int .i64 (b1 + e1), .int .i64 (b2 + e2)]), (120, .agg #[.int .i64 (c1 + e1), .int .i64 (c2 + e2)]), (121, .agg #[.int .i64 (d1 + e1), .int .i64 (d2 + e2)]), (122, .slice (some ⟨gb122, 0, none⟩) 4 4), (123, .bool true), (124, .bool false), (125, .bool false), (126, .agg #[.int .i64 (a1 + e1), .int .i64 (a2 + e2)]), (127, .agg #[.int .i64 (b1 + e1), .int .i64 (b2 + e2)]), (128, .agg #[.int .i64 (c1 + e1), .int .i64 (c2 + e2)]), (129, .int .i64 (tn a1 a2 b1 b2 c1 c2)), (130, .int .i64 (tn a1 a2 b1 b2 c1 c2)), (131, .bool true), (132, .bool true), (133, .agg #[.int .i64 (a1 + e1), .int .i64 (a2 + e2)]), (134, .agg #[.int .i64 (b1 + e1), .int .i64 (b2 + e2)]), (135, .agg #[.int .i64 (c1 + e1), .int .i64 (c2 + e2)]), (136, .agg #[.int .i64 (d1 + e1), .int .i64 (d2 + e2)]), (137, .bool true), (138, .bool true), (139, .bool true), (140, .bool true), (141, .bool true), (142, .agg #[.int .i64 (c1 + e1), .int .i64 (c2 + e2)]), (143, .agg #[.int .i64 (a1 + e1), .int .i64 (a2 + e2)]), (144, .agg #[.int .i64 (b1 + e1), .int .i64 (b2 + e2)]), (145, .bool false), (146, .agg #[.int .i64 c1, .int .i64 c2]), (147, .agg #[.int .i64 a1, .int .i64 a2]), (148, .agg #[.int .i64 b1, .int .i64 b2]), (149, .bool false), (150, .bool true), (151, .bool true), (152, .bool true), (10, .bool true)]
              ⟨I.val 0, I.val 1, I.val 2, I.val 3, ew122, I.val 5, I.val 6, I.val 7, I.val 8, I.val 9, I.val 10, I.val 11, I.val 12, I.val 13, I.val 14, I.val 15, I.val 16, I.val 17, I.val 18, I.val 19, I.val 20, I.val 21, I.val 22, I.val 23, I.val 24, I.val 25, I.val 26, I.val 27, I.val 28, I.val 29, I.val 30, I.val 31, I.val 32, I.val 33, I.val 34, I.val 35, trivial⟩ rfl]
            change W6.heap.size ≤ gb122 at lw122
            have sW7 : W6.heap.size ≤ W7.heap.size := I.below.size
            replace ow5 := I.keep ow5.drawn trivial
            replace ow6 := I.keep ow6.drawn trivial
            replace ow7 := I.keep ow7.drawn trivial
            replace ow8 := I.keep ow8.drawn trivial
            replace ow9 := I.keep ow9.drawn trivial
            replace ow22 := I.keep ow22.drawn trivial
            replace ow13 := I.keep ow13.drawn trivial
            replace ow14 := I.keep ow14.drawn trivial
            replace ow15 := I.keep ow15.drawn trivial
            replace ow16 := I.keep ow16.drawn trivial
            have hW7 : Below w.heap.size w W7 := then_ hW6.drew I.below hW6.size
            clear ew122
            clear I
            simp only [List.foldl_cons, List.foldl_nil, List.setIfInBounds_toArray, List.set_cons_zero, List.set_cons_succ]
            clear ow5 ow6 ow7 ow8 ow9 ow22 ow13 ow14 ow15 ow16 ow122
            go_wp2
            try simp only [setCell_drawn]
            refine bodyPost_ret (by first | (simp [results, Try.results3, go_sem]; done) | (simp [results, Try.results3, go_sem]; rfl)) rfl ⟨?_, hW7⟩
            rfl
        · have t6_ := Lib.hid t6
          clear t6
          go_upto_region 10 with fail
          refine region_memo (B := W6.heap.size) (L := .val (.agg #[.int .i64 (a1 + e1), .int .i64 (a2 + e2)]) :: .val (.agg #[.int .i64 (b1 + e1), .int .i64 (b2 + e2)]) :: .val (.agg #[.int .i64 (c1 + e1), .int .i64 (c2 + e2)]) :: .val (.agg #[.int .i64 (d1 + e1), .int .i64 (d2 + e2)]) :: .new 23 #[.int .i64 (a1 + e1), .int .i64 (a2 + e2), .int .i64 (b1 + e1), .int .i64 (b2 + e2), .int .i64 (c1 + e1), .int .i64 (c2 + e2), .int .i64 (d1 + e1), .int .i64 (d2 + e2)] (some (4, 4)) :: .val (.bool false) :: .val (.bool true) :: .val (.bool true) :: .skip :: .skip :: .skip :: .skip :: .skip :: .skip :: .skip :: .skip :: .skip :: .skip :: .skip :: .skip :: .skip :: .skip :: .skip :: .skip :: .skip :: .skip :: .skip :: .skip :: .skip :: .skip :: .skip :: .skip :: .skip :: .skip :: .val (.bool true) :: .val (.bool true) :: []) (by kernel_rfl) (by kernel_rfl) (Nat.le_refl _) ((by exact trivial))
            ⟨fun a w R => ld_P (R.slot 13 rfl) (R.keep ow13.drawn trivial) rfl rfl, fun a w R => ld_P (R.slot 14 rfl) (R.keep ow14.drawn trivial) rfl rfl, fun a w R => ld_P (R.slot 15 rfl) (R.keep ow15.drawn trivial) rfl rfl, fun a w R => ld_P (R.slot 16 rfl) (R.keep ow16.drawn trivial) rfl rfl, fun a w R => bsP_4 (R.val 0) (R.val 1) (R.val 2) (R.val 3), fun a w R => cl_n (enter_at Try.func11) (R.dep 4) (fun g hg => lawin4 t6_.out hg), fun a w R => notb (R.val 5), fun a w R => mv (R.val 6), fun a w R => True.intro, fun a w R => True.intro, fun a w R => True.intro, fun a w R => True.intro, fun a w R => True.intro, fun a w R => True.intro, fun a w R => True.intro, fun a w R => True.intro, fun a w R => True.intro, fun a w R => True.intro, fun a w R => True.intro, fun a w R => True.intro, fun a w R => True.intro, fun a w R => True.intro, fun a w R => True.intro, fun a w R => True.intro, fun a w R => True.intro, fun a w R => True.intro, fun a w R => True.intro, fun a w R => True.intro, fun a w R => True.intro, fun a w R => True.intro, fun a w R => True.intro, fun a w R => True.intro, fun a w R => True.intro, fun a w R => True.intro, fun a w R => picko (R.val 7) (R.goneS 33), fun a w R => asg (R.val 34), trivial⟩ (fun act_ W7 I => ?_)
          obtain ⟨gb122, ew122, lw122, ow122⟩ := I.new 4 rfl rfl rfl
          rw [I.act [(118, .agg #[.int .i64 (a1 + e1), .int .i64 (a2 + e2)]), (119, .agg #[.int .i64 (b1 + e1), .int .i64 (b2 + e2)]), (120, .agg #[.int .i64 (c1 + e1), .int .i64 (c2 + e2)]), (121, .agg #[.int .i64 (d1 + e1), .int .i64 (d2 + e2)]), (122, .slice (some ⟨gb122, 0, none⟩) 4 4), (123, .bool false), (124, .bool true), (125, .bool true), (126, undef), (127, undef), (128, undef), (129, undef), (130, undef), (131, undef), (132, undef), (133, undef), (134, undef), (135, undef), (136, undef), (137, undef), (138, undef), (139, undef), (140, undef), (141, undef), (142, undef), (143, undef), (144, undef), (145, undef), (146, undef), (147, undef), (148, undef), (149, undef), (150, undef), (151, undef), (152, .bool true), (10, .bool true)]
            ⟨I.val 0, I.val 1, I.val 2, I.val 3, ew122, I.val 5, I.val 6, I.val 7, I.gone 8, I.gone 9, I.gone 10, I.gone 11, I.gone 12, I.gone 13, I.gone 14, I.gone 15, I.gone 16, I.gone 17, I.gone 18, I.gone 19, I.gone 20, I.gone 21, I.gone 22, I.gone 23, I.gone 24, I.gone 25, I.gone 26, I.gone 27, I.gone 28, I.gone 29, I.gone 30, I.gone 31, I.gone 32, I.gone 33, I.val 34, I.val 35, trivial⟩ rfl]
          change W6.heap.size ≤ gb122 at lw122
          have sW7 : W6.heap.size ≤ W7.heap.size := I.below.size
          replace ow5 := I.keep ow5.drawn trivial
          replace ow6 := I.keep ow6.drawn trivial
          replace ow7 := I.keep ow7.drawn trivial
          replace ow8 := I.keep ow8.drawn trivial
          replace ow9 := I.keep ow9.drawn trivial
          replace ow22 := I.keep ow22.drawn trivial
          replace ow13 := I.keep ow13.drawn trivial
          replace ow14 := I.keep ow14.drawn trivial
          replace ow15 := I.keep ow15.drawn trivial
          replace ow16 := I.keep ow16.drawn trivial
          have hW7 : Below w.heap.size w W7 := then_ hW6.drew I.below hW6.size
          clear ew122
          clear I
          simp only [List.foldl_cons, List.foldl_nil, List.setIfInBounds_toArray, List.set_cons_zero, List.set_cons_succ]
          clear ow5 ow6 ow7 ow8 ow9 ow22 ow13 ow14 ow15 ow16 ow122
          go_wp2
          try simp only [setCell_drawn]
          refine bodyPost_ret (by first | (simp [results, Try.results3, go_sem]; done) | (simp [results, Try.results3, go_sem]; rfl)) rfl ⟨?_, hW7⟩
          rfl
    · have t2_ := Lib.hid t2
      clear t2
      go_upto_region 6 with fail
      refine region_memo_f (B := W3.heap.size) (L := .val (.agg #[.int .i64 a1, .int .i64 a2]) :: .val (.agg #[.int .i64 b1, .int .i64 b2]) :: .val (.agg #[.int .i64 c1, .int .i64 c2]) :: .val (.agg #[.int .i64 d1, .int .i64 d2]) :: .val (.bool false) :: .val (.bool false) :: []) (by kernel_rfl) (Nat.le_refl _) ((by exact trivial))
        ⟨fun a w R => ld_P (R.slot 5 rfl) (R.keep ow5 trivial) rfl rfl, fun a w R => ld_P (R.slot 6 rfl) (R.keep ow6 trivial) rfl rfl, fun a w R => ld_P (R.slot 7 rfl) (R.keep ow7 trivial) rfl rfl, fun a w R => ld_P (R.slot 8 rfl) (R.keep ow8 trivial) rfl rfl, fun a w R => cl_tttt (enter_at Try.func15) (R.val 0) (R.val 1) (R.val 2) (R.val 3) (Meet_is t2_.out _), fun a w R => asg (R.val 4), trivial⟩ (fun act_ W4 I => ?_)
      rw [I.act [(61, .agg #[.int .i64 a1, .int .i64 a2]), (62, .agg #[.int .i64 b1, .int .i64 b2]), (63, .agg #[.int .i64 c1, .int .i64 c2]), (64, .agg #[.int .i64 d1, .int .i64 d2]), (65, .bool false), (12, .bool false)]
        ⟨I.val 0, I.val 1, I.val 2, I.val 3, I.val 4, I.val 5, trivial⟩ rfl]
      have sW4 : W3.heap.size ≤ W4.heap.size := I.below.size
      replace ow5 := I.keep ow5 trivial
      replace ow6 := I.keep ow6 trivial
      replace ow7 := I.keep ow7 trivial
      replace ow8 := I.keep ow8 trivial
      replace ow9 := I.keep ow9 trivial
      replace ow22 := I.keep ow22 trivial
      have hW4 : Below w.heap.size w W4 := then_ hW3 I.below hW3.size
      clear I
      simp only [List.foldl_cons, List.foldl_nil, List.setIfInBounds_toArray, List.set_cons_zero, List.set_cons_succ]
      rcases Bool.eq_false_or_eq_true (onB a1 a2 b1 b2 c1 c2) with t8 | t8
      · have t8_ := Lib.hid t8
        clear t8
        go_upto_region 7 with fail
        refine region_memo (B := W4.heap.size) (L := .val (.agg #[.int .i64 b1, .int .i64 b2]) :: .val (.agg #[.int .i64 a1, .int .i64 a2]) :: .val (.agg #[.int .i64 c1, .int .i64 c2]) :: .val (.agg #[.int .i64 d1, .int .i64 d2]) :: .val (.bool false) :: .val (.bool false) :: .val (.bool false) :: .val (.bool false) :: .val (.agg #[.int .i64 c1, .int .i64 c2]) :: .val (.agg #[.int .i64 d1, .int .i64 d2]) :: .val (.agg #[.int .i64 a1, .int .i64 a2]) :: .val (.agg #[.int .i64 b1, .int .i64 b2]) :: .val (.bool false) :: .val (.bool false) :: .val (.bool false) :: .val (.bool false) :: .val (.bool false) :: .val (.agg #[.int .i64 a1, .int .i64 a2]) :: .val (.agg #[.int .i64 a2, .int .i64 a1]) :: .val (.agg #[.int .i64 b1, .int .i64 b2]) :: .val (.agg #[.int .i64 b2, .int .i64 b1]) :: .val (.agg #[.int .i64 c1, .int .i64 c2]) :: .val (.agg #[.int .i64 c2, .int .i64 c1]) :: .val (.agg #[.int .i64 d1, .int .i64 d2]) :: .val (.agg #[.int .i64 d2, .int .i64 d1]) :: .val (.bool false) :: .val (.bool false) :: .val (.bool false) :: .val (.bool false) :: .val (.bool false) :: .val (.agg #[.int .i64 a1, .int .i64 a2]) :: .val (.agg #[.int .i64 b1, .int .i64 b2]) :: .val (.agg #[.int .i64 c1, .int .i64 c2]) :: .val (.bool true) :: .val (.agg #[.int .i64 a1, .int .i64 a2]) :: .val (.agg #[.int .i64 c1, .int .i64 c2]) :: .val (.agg #[.int .i64 b1, .int .i64 b2]) :: .val (.bool true) :: .val (.bool false) :: .val (.bool false) :: []) (by kernel_rfl) (by kernel_rfl) (Nat.le_refl _) ((by exact trivial))
          ⟨fun a w R => ld_P (R.slot 6 rfl) (R.keep ow6.drawn trivial) rfl rfl, fun a w R => ld_P (R.slot 5 rfl) (R.keep ow5.drawn trivial) rfl rfl, fun a w R => ld_P (R.slot 7 rfl) (R.keep ow7.drawn trivial) rfl rfl, fun a w R => ld_P (R.slot 8 rfl) (R.keep ow8.drawn trivial) rfl rfl, fun a w R => cl_tttt (enter_at Try.func15) (R.val 0) (R.val 1) (R.val 2) (R.val 3) (Meet_is (mt_ba.trans t2_.out) _), fun a w R => mv (R.slot 12 rfl), fun a w R => cb_neq_tt (R.val 4) (R.val 5) rfl, fun a w R => mv (R.val 6), fun a w R => ld_P (R.slot 7 rfl) (R.keep ow7.drawn trivial) rfl rfl, fun a w R => ld_P (R.slot 8 rfl) (R.keep ow8.drawn trivial) rfl rfl, fun a w R => ld_P (R.slot 5 rfl) (R.keep ow5.drawn trivial) rfl rfl, fun a w R => ld_P (R.slot 6 rfl) (R.keep ow6.drawn trivial) rfl rfl, fun a w R => cl_tttt (enter_at Try.func15) (R.val 8) (R.val 9) (R.val 10) (R.val 11) (Meet_is (mt_cd.trans t2_.out) _), fun a w R => mv (R.slot 12 rfl), fun a w R => cb_neq_tt (R.val 12) (R.val 13) rfl, fun a w R => pickn (R.val 7) (R.val 14), fun a w R => mv (R.val 15), fun a w R => ld_P (R.slot 5 rfl) (R.keep ow5.drawn trivial) rfl rfl, fun a w R => cl_t (enter_at Try.func14) (R.val 17) (flip_any _), fun a w R => ld_P (R.slot 6 rfl) (R.keep ow6.drawn trivial) rfl rfl, fun a w R => cl_t (enter_at Try.func14) (R.val 19) (flip_any _), fun a w R => ld_P (R.slot 7 rfl) (R.keep ow7.drawn trivial) rfl rfl, fun a w R => cl_t (enter_at Try.func14) (R.val 21) (flip_any _), fun a w R => ld_P (R.slot 8 rfl) (R.keep ow8.drawn trivial) rfl rfl, fun a w R => cl_t (enter_at Try.func14) (R.val 23) (flip_any _), fun a w R => cl_tttt (enter_at Try.func15) (R.val 18) (R.val 20) (R.val 22) (R.val 24) (Meet_is (mt_flip.trans t2_.out) _), fun a w R => mv (R.slot 12 rfl), fun a w R => cb_neq_tt (R.val 25) (R.val 26) rfl, fun a w R => pickn (R.val 16) (R.val 27), fun a w R => mv (R.val 28), fun a w R => ld_P (R.slot 5 rfl) (R.keep ow5.drawn trivial) rfl rfl, fun a w R => ld_P (R.slot 6 rfl) (R.keep ow6.drawn trivial) rfl rfl, fun a w R => ld_P (R.slot 7 rfl) (R.keep ow7.drawn trivial) rfl rfl, fun a w R => cl_ttt (enter_at Try.func16) (R.val 30) (R.val 31) (R.val 32) (On_is t8_.out _), fun a w R => ld_P (R.slot 5 rfl) (R.keep ow5.drawn trivial) rfl rfl, fun a w R => ld_P (R.slot 7 rfl) (R.keep ow7.drawn trivial) rfl rfl, fun a w R => ld_P (R.slot 6 rfl) (R.keep ow6.drawn trivial) rfl rfl, fun a w R => cl_ttt (enter_at Try.func16) (R.val 34) (R.val 35) (R.val 36) (On_is (on_ac.trans t8_.out) _), fun a w R => cb_neq_tt (R.val 33) (R.val 37) rfl, fun a w R => pickn (R.val 29) (R.val 38), trivial⟩ (fun act_ W5 I => ?_)
        rw [I.act [(66, .agg #[.int .i64 b1, .int .i64 b2]), (67, .agg #[.int .i64 a1, .int .i64 a2]), (68, .agg #[.int .i64 c1, .int .i64 c2]), (69, .agg #[.int .i64 d1, .int .i64 d2]), (70, .bool false), (71, .bool false), (72, .bool false), (73, .bool false), (74, .agg #[.int .i64 c1, .int .i64 c2]), (75, .agg #[.int .i64 d1, .int .i64 d2]), (76, .agg #[.int .i64 a1, .int .i64 a2]), (77, .agg #[.int .i64 b1, .int .i64 b2]), (78, .bool false), (79, .bool false), (80, .bool false), (81, .bool false), (82, .bool false), (83, .agg #[.int .i64 a1, .int .i64 a2]), (84, .agg #[.int .i64 a2, .int .i64 a1]), (85, .agg #[.int .i64 b1, .int .i64 b2]), (86, .agg #[.int .i64 b2, .int .i64 b1]), (87, .agg #[.int .i64 c1, .int .i64 c2]), (88, .agg #[.int .i64 c2, .int .i64 c1]), (89, .agg #[.int .i64 d1, .int .i64 d2]), (90, .agg #[.int .i64 d2, .int .i64 d1]), (91, .bool false), (92, .bool false), (93, .bool false), (94, .bool false), (95, .bool false), (96, .agg #[.int .i64 a1, .int .i64 a2]), (97, .agg #[.int .i64 b1, .int .i64 b2]), (98, .agg #[.int .i64 c1, .int .i64 c2]), (99, .bool true), (100, .agg #[.int .i64 a1, .int .i64 a2]), (101, .agg #[.int .i64 c1, .int .i64 c2]), (102, .agg #[.int .i64 b1, .int .i64 b2]), (103, .bool true), (104, .bool false), (105, .bool false)]
          ⟨I.val 0, I.val 1, I.val 2, I.val 3, I.val 4, I.val 5, I.val 6, I.val 7, I.val 8, I.val 9, I.val 10, I.val 11, I.val 12, I.val 13, I.val 14, I.val 15, I.val 16, I.val 17, I.val 18, I.val 19, I.val 20, I.val 21, I.val 22, I.val 23, I.val 24, I.val 25, I.val 26, I.val 27, I.val 28, I.val 29, I.val 30, I.val 31, I.val 32, I.val 33, I.val 34, I.val 35, I.val 36, I.val 37, I.val 38, I.val 39, trivial⟩ rfl]
        have sW5 : W4.heap.size ≤ W5.heap.size := I.below.size
        replace ow5 := I.keep ow5.drawn trivial
        replace ow6 := I.keep ow6.drawn trivial
        replace ow7 := I.keep ow7.drawn trivial
        replace ow8 := I.keep ow8.drawn trivial
        replace ow9 := I.keep ow9.drawn trivial
        replace ow22 := I.keep ow22.drawn trivial
        have hW5 : Below w.heap.size w W5 := then_ hW4.drew I.below hW4.size
        clear I
        simp only [List.foldl_cons, List.foldl_nil, List.setIfInBounds_toArray, List.set_cons_zero, List.set_cons_succ]
        go_upto_region 9 with fail
        refine region_memo (B := W5.heap.size) (L := .val (.agg #[.int .i64 a1, .int .i64 a2]) :: .val (.agg #[.int .i64 e1, .int .i64 e2]) :: .val (.agg #[.int .i64 (a1 + e1), .int .i64 (a2 + e2)]) :: .val (.agg #[.int .i64 b1, .int .i64 b2]) :: .val (.agg #[.int .i64 e1, .int .i64 e2]) :: .val (.agg #[.int .i64 (b1 + e1), .int .i64 (b2 + e2)]) :: .val (.agg #[.int .i64 c1, .int .i64 c2]) :: .val (.agg #[.int .i64 e1, .int .i64 e2]) :: .val (.agg #[.int .i64 (c1 + e1), .int .i64 (c2 + e2)]) :: .val (.agg #[.int .i64 d1, .int .i64 d2]) :: .val (.agg #[.int .i64 e1, .int .i64 e2]) :: .val (.agg #[.int .i64 (d1 + e1), .int .i64 (d2 + e2)]) :: .blk 23 2 :: .blk 23 2 :: .blk 23 2 :: .blk 23 2 :: .put 13 23 #[.int .i64 (a1 + e1), .int .i64 (a2 + e2)] :: .put 14 23 #[.int .i64 (b1 + e1), .int .i64 (b2 + e2)] :: .put 15 23 #[.int .i64 (c1 + e1), .int .i64 (c2 + e2)] :: .put 16 23 #[.int .i64 (d1 + e1), .int .i64 (d2 + e2)] :: []) (by kernel_rfl) (by kernel_rfl) (Nat.le_refl _) ((by exact trivial))
          ⟨fun a w R => ld_P (R.slot 5 rfl) (R.keep ow5.drawn trivial) rfl rfl, fun a w R => ld_P (R.slot 9 rfl) (R.keep ow9.drawn trivial) rfl rfl, fun a w R => cl_tt (enter_at Try.func17) (R.val 0) (R.val 1) (move_any (in5_iff.1 t1_.out).1 (in5_iff.1 t1_.out).2.2.2.2 _), fun a w R => ld_P (R.slot 6 rfl) (R.keep ow6.drawn trivial) rfl rfl, fun a w R => ld_P (R.slot 9 rfl) (R.keep ow9.drawn trivial) rfl rfl, fun a w R => cl_tt (enter_at Try.func17) (R.val 3) (R.val 4) (move_any (in5_iff.1 t1_.out).2.1 (in5_iff.1 t1_.out).2.2.2.2 _), fun a w R => ld_P (R.slot 7 rfl) (R.keep ow7.drawn trivial) rfl rfl, fun a w R => ld_P (R.slot 9 rfl) (R.keep ow9.drawn trivial) rfl rfl, fun a w R => cl_tt (enter_at Try.func17) (R.val 6) (R.val 7) (move_any (in5_iff.1 t1_.out).2.2.1 (in5_iff.1 t1_.out).2.2.2.2 _), fun a w R => ld_P (R.slot 8 rfl) (R.keep ow8.drawn trivial) rfl rfl, fun a w R => ld_P (R.slot 9 rfl) (R.keep ow9.drawn trivial) rfl rfl, fun a w R => cl_tt (enter_at Try.func17) (R.val 9) (R.val 10) (move_any (in5_iff.1 t1_.out).2.2.2.1 (in5_iff.1 t1_.out).2.2.2.2 _), fun a w R => al_P, fun a w R => al_P, fun a w R => al_P, fun a w R => al_P, fun a w R => sb_P (R.dep 12) (R.val 2), fun a w R => sb_P (R.dep 13) (R.val 5), fun a w R => sb_P (R.dep 14) (R.val 8), fun a w R => sb_P (R.dep 15) (R.val 11), trivial⟩ (fun act_ W6 I => ?_)
        obtain ⟨gb13, ew13, lw13, ow13⟩ := I.put 16 rfl rfl
        obtain ⟨gb14, ew14, lw14, ow14⟩ := I.put 17 rfl rfl
        obtain ⟨gb15, ew15, lw15, ow15⟩ := I.put 18 rfl rfl
        obtain ⟨gb16, ew16, lw16, ow16⟩ := I.put 19 rfl rfl
        have nw13_14 := I.apart2 12 13 rfl rfl (by omega) rfl rfl rfl rfl ew13 ew14
        have nw13_15 := I.apart2 12 14 rfl rfl (by omega) rfl rfl rfl rfl ew13 ew15
        have nw13_16 := I.apart2 12 15 rfl rfl (by omega) rfl rfl rfl rfl ew13 ew16
        have nw14_15 := I.apart2 13 14 rfl rfl (by omega) rfl rfl rfl rfl ew14 ew15
        have nw14_16 := I.apart2 13 15 rfl rfl (by omega) rfl rfl rfl rfl ew14 ew16
        have nw15_16 := I.apart2 14 15 rfl rfl (by omega) rfl rfl rfl rfl ew15 ew16
        rw [I.act [(106, .agg #[.int .i64 a1, .int .i64 a2]), (107, .agg #[.int .i64 e1, .int .i64 e2]), (108, .agg #[.int .i64 (a1 + e1), .int .i64 (a2 + e2)]), (109, .agg #[.int .i64 b1, .int .i64 b2]), (110, .agg #[.int .i64 e1, .int .i64 e2]), (111, .agg #[.int .i64 (b1 + e1), .int .i64 (b2 + e2)]), (112, .agg #[.int .i64 c1, .int .i64 c2]), (113, .agg #[.int .i64 e1, .int .i64 e2]), (114, .agg #[.int .i64 (c1 + e1), .int .i64 (c2 + e2)]), (115, .agg #[.int .i64 d1, .int .i64 d2]), (116, .agg #[.int .i64 e1, .int .i64 e2]), (117, .agg #[.int .i64 (d1 + e1), .int .i64 (d2 + e2)]), (13, .pointer (some ⟨gb13, 0, none⟩)), (14, .pointer (some ⟨gb14, 0, none⟩)), (15, .pointer (some ⟨gb15, 0, none⟩)), (16, .pointer (some ⟨gb16, 0, none⟩))]
          ⟨I.val 0, I.val 1, I.val 2, I.val 3, I.val 4, I.val 5, I.val 6, I.val 7, I.val 8, I.val 9, I.val 10, I.val 11, ew13, ew14, ew15, ew16, trivial⟩ rfl]
        change W5.heap.size ≤ gb13 at lw13
        change W5.heap.size ≤ gb14 at lw14
        change W5.heap.size ≤ gb15 at lw15
        change W5.heap.size ≤ gb16 at lw16
        have sW6 : W5.heap.size ≤ W6.heap.size := I.below.size
        replace ow5 := I.keep ow5.drawn trivial
        replace ow6 := I.keep ow6.drawn trivial
        replace ow7 := I.keep ow7.drawn trivial
        replace ow8 := I.keep ow8.drawn trivial
        replace ow9 := I.keep ow9.drawn trivial
        replace ow22 := I.keep ow22.drawn trivial
        have hW6 : Below w.heap.size w W6 := then_ hW5.drew I.below hW5.size
        clear ew13 ew14 ew15 ew16
        clear I
        simp only [List.foldl_cons, List.foldl_nil, List.setIfInBounds_toArray, List.set_cons_zero, List.set_cons_succ]
        rcases Bool.eq_false_or_eq_true (in4 (a1 + e1) (a2 + e2) (b1 + e1) (b2 + e2) (c1 + e1) (c2 + e2) (d1 + e1) (d2 + e2)) with t9 | t9
        · have t9_ := Lib.hid t9
          clear t9
          rcases Bool.eq_false_or_eq_true (onB c1 c2 a1 a2 b1 b2) with t10 | t10
          · have t10_ := Lib.hid t10
            clear t10
            go_upto_region 10 with fail
            refine region_memo (B := W6.heap.size) (L := .val (.agg #[.int .i64 (a1 + e1), .int .i64 (a2 + e2)]) :: .val (.agg #[.int .i64 (b1 + e1), .int .i64 (b2 + e2)]) :: .val (.agg #[.int .i64 (c1 + e1), .int .i64 (c2 + e2)]) :: .val (.agg #[.int .i64 (d1 + e1), .int .i64 (d2 + e2)]) :: .new 23 #[.int .i64 (a1 + e1), .int .i64 (a2 + e2), .int .i64 (b1 + e1), .int .i64 (b2 + e2), .int .i64 (c1 + e1), .int .i64 (c2 + e2), .int .i64 (d1 + e1), .int .i64 (d2 + e2)] (some (4, 4)) :: .val (.bool true) :: .val (.bool false) :: .val (.bool false) :: .val (.agg #[.int .i64 (a1 + e1), .int .i64 (a2 + e2)]) :: .val (.agg #[.int .i64 (b1 + e1), .int .i64 (b2 + e2)]) :: .val (.agg #[.int .i64 (c1 + e1), .int .i64 (c2 + e2)]) :: .val (.int .i64 (tn a1 a2 b1 b2 c1 c2)) :: .val (.int .i64 (tn a1 a2 b1 b2 c1 c2)) :: .val (.bool true) :: .val (.bool true) :: .val (.agg #[.int .i64 (a1 + e1), .int .i64 (a2 + e2)]) :: .val (.agg #[.int .i64 (b1 + e1), .int .i64 (b2 + e2)]) :: .val (.agg #[.int .i64 (c1 + e1), .int .i64 (c2 + e2)]) :: .val (.agg #[.int .i64 (d1 + e1), .int .i64 (d2 + e2)]) :: .val (.bool false) :: .val (.bool false) :: .val (.bool true) :: .val (.bool true) :: .val (.bool true) :: .val (.agg #[.int .i64 (c1 + e1), .int .i64 (c2 + e2)]) :: .val (.agg #[.int .i64 (a1 + e1), .int .i64 (a2 + e2)]) :: .val (.agg #[.int .i64 (b1 + e1), .int .i64 (b2 + e2)]) :: .val (.bool true) :: .val (.agg #[.int .i64 c1, .int .i64 c2]) :: .val (.agg #[.int .i64 a1, .int .i64 a2]) :: .val (.agg #[.int .i64 b1, .int .i64 b2]) :: .val (.bool true) :: .val (.bool true) :: .val (.bool true) :: .val (.bool true) :: .val (.bool true) :: []) (by kernel_rfl) (by kernel_rfl) (Nat.le_refl _) ((by exact trivial))
              ⟨fun a w R => ld_P (R.slot 13 rfl) (R.keep ow13.drawn trivial) rfl rfl, fun a w R => ld_P (R.slot 14 rfl) (R.keep ow14.drawn trivial) rfl rfl, fun a w R => ld_P (R.slot 15 rfl) (R.keep ow15.drawn trivial) rfl rfl, fun a w R => ld_P (R.slot 16 rfl) (R.keep ow16.drawn trivial) rfl rfl, fun a w R => bsP_4 (R.val 0) (R.val 1) (R.val 2) (R.val 3), fun a w R => cl_n (enter_at Try.func11) (R.dep 4) (fun g hg => lawin4 t9_.out hg), fun a w R => notb (R.val 5), fun a w R => mv (R.val 6), fun a w R => ld_P (R.slot 13 rfl) (R.keep ow13.drawn trivial) rfl rfl, fun a w R => ld_P (R.slot 14 rfl) (R.keep ow14.drawn trivial) rfl rfl, fun a w R => ld_P (R.slot 15 rfl) (R.keep ow15.drawn trivial) rfl rfl, fun a w R => cl_ttt (enter_at Try.func13) (R.val 8) (R.val 9) (R.val 10) (Turn_is (in3_iff.2 ⟨(in4_iff.1 t9_.out).1, (in4_iff.1 t9_.out).2.1, (in4_iff.1 t9_.out).2.2.1⟩) tn_move _), fun a w R => mv (R.slot 11 rfl), fun a w R => c_eql_tt (R.val 11) (R.val 12) (Try.underlying3) (by simp), fun a w R => mv (R.val 13), fun a w R => ld_P (R.slot 13 rfl) (R.keep ow13.drawn trivial) rfl rfl, fun a w R => ld_P (R.slot 14 rfl) (R.keep ow14.drawn trivial) rfl rfl, fun a w R => ld_P (R.slot 15 rfl) (R.keep ow15.drawn trivial) rfl rfl, fun a w R => ld_P (R.slot 16 rfl) (R.keep ow16.drawn trivial) rfl rfl, fun a w R => cl_tttt (enter_at Try.func15) (R.val 15) (R.val 16) (R.val 17) (R.val 18) (Meet_is ((mt_move (in4_iff.2 ⟨(in5_iff.1 t1_.out).1, (in5_iff.1 t1_.out).2.1, (in5_iff.1 t1_.out).2.2.1, (in5_iff.1 t1_.out).2.2.2.1⟩) (in4_iff.2 ⟨(in4_iff.1 t9_.out).1, (in4_iff.1 t9_.out).2.1, (in4_iff.1 t9_.out).2.2.1, (in4_iff.1 t9_.out).2.2.2⟩)).trans t2_.out) _), fun a w R => mv (R.slot 12 rfl), fun a w R => cb_eql_tt (R.val 19) (R.val 20) rfl, fun a w R => pickt (R.val 14) (R.val 21), fun a w R => mv (R.val 22), fun a w R => ld_P (R.slot 15 rfl) (R.keep ow15.drawn trivial) rfl rfl, fun a w R => ld_P (R.slot 13 rfl) (R.keep ow13.drawn trivial) rfl rfl, fun a w R => ld_P (R.slot 14 rfl) (R.keep ow14.drawn trivial) rfl rfl, fun a w R => cl_ttt (enter_at Try.func16) (R.val 24) (R.val 25) (R.val 26) (On_is ((onB_move (in3_iff.2 ⟨(in5_iff.1 t1_.out).2.2.1, (in5_iff.1 t1_.out).1, (in5_iff.1 t1_.out).2.1⟩) (in3_iff.2 ⟨(in4_iff.1 t9_.out).2.2.1, (in4_iff.1 t9_.out).1, (in4_iff.1 t9_.out).2.1⟩)).trans t10_.out) _), fun a w R => ld_P (R.slot 7 rfl) (R.keep ow7.drawn trivial) rfl rfl, fun a w R => ld_P (R.slot 5 rfl) (R.keep ow5.drawn trivial) rfl rfl, fun a w R => ld_P (R.slot 6 rfl) (R.keep ow6.drawn trivial) rfl rfl, fun a w R => cl_ttt (enter_at Try.func16) (R.val 28) (R.val 29) (R.val 30) (On_is t10_.out _), fun a w R => cb_eql_tt (R.val 27) (R.val 31) rfl, fun a w R => pickt (R.val 23) (R.val 32), fun a w R => pickn (R.val 7) (R.val 33), fun a w R => asg (R.val 34), trivial⟩ (fun act_ W7 I => ?_)
            obtain ⟨gb122, ew122, lw122, ow122⟩ := I.new 4 rfl rfl rfl
            rw [I.act [(118, .agg #[.int .i64 (a1 + e1), .int .i64 (a2 + e2)]), (119, .agg #[.int .i64 (b1 + e1), .int .i64 (b2 + e2)]), (120, .agg #[.int .i64 (c1 + e1), .int .i64 (c2 + e2)]), (121, .agg #[.int .i64 (d1 + e1), .int .i64 (d2 + e2)]), (122, .slice (some ⟨gb122, 0, none⟩) 4 4), (123, .bool true), (124, .bool false), (125, .bool false), (126, .agg #[.int .i64 (a1 + e1), .int .i64 (a2 + e2)]), (127, .agg #[.int .i64 (b1 + e1), .int .i64 (b2 + e2)]), (128, .agg #[.int .i64 (c1 + e1), .int .i64 (c2 + e2)]), (129, .int .i64 (tn a1 a2 b1 b2 c1 c2)), (130, .int .i64 (tn a1 a2 b1 b2 c1 c2)), (131, .bool true), (132, .bool true), (133, .agg #[.int .i64 (a1 + e1), .int .i64 (a2 + e2)]), (134, .agg #[.int .i64 (b1 + e1), .int .i64 (b2 + e2)]), (135, .agg #[.int .i64 (c1 + e1), .int .i64 (c2 + e2)]), (136, .agg #[.int .i64 (d1 + e1), .int .i64 (d2 + e2)]), (137, .bool false), (138, .bool false), (139, .bool true), (140, .bool true), (141, .bool true), (142, .agg #[.int .i64 (c1 + e1), .int .i64 (c2 + e2)]), (143, .agg #[.int .i64 (a1 + e1), .int .i64 (a2 + e2)]), (144, .agg #[.int .i64 (b1 + e1), .int .i64 (b2 + e2)]), (145, .bool true), (146, .agg #[.int .i64 c1, .int .i64 c2]), (147, .agg #[.int .i64 a1, .int .i64 a2]), (148, .agg #[.int .i64 b1, .int .i64 b2]), (149, .bool true), (150, .bool true), (151, .bool true), (152, .bool true), (10, .bool true)]
              ⟨I.val 0, I.val 1, I.val 2, I.val 3, ew122, I.val 5, I.val 6, I.val 7, I.val 8, I.val 9, I.val 10, I.val 11, I.val 12, I.val 13, I.val 14, I.val 15, I.val 16, I.val 17, I.val 18, I.val 19, I.val 20, I.val 21, I.val 22, I.val 23, I.val 24, I.val 25, I.val 26, I.val 27, I.val 28, I.val 29, I.val 30, I.val 31, I.val 32, I.val 33, I.val 34, I.val 35, trivial⟩ rfl]
            change W6.heap.size ≤ gb122 at lw122
            have sW7 : W6.heap.size ≤ W7.heap.size := I.below.size
            replace ow5 := I.keep ow5.drawn trivial
            replace ow6 := I.keep ow6.drawn trivial
            replace ow7 := I.keep ow7.drawn trivial
            replace ow8 := I.keep ow8.drawn trivial
            replace ow9 := I.keep ow9.drawn trivial
            replace ow22 := I.keep ow22.drawn trivial
            replace ow13 := I.keep ow13.drawn trivial
            replace ow14 := I.keep ow14.drawn trivial
            replace ow15 := I.keep ow15.drawn trivial
            replace ow16 := I.keep ow16.drawn trivial
            have hW7 : Below w.heap.size w W7 := then_ hW6.drew I.below hW6.size
            clear ew122
            clear I
            simp only [List.foldl_cons, List.foldl_nil, List.setIfInBounds_toArray, List.set_cons_zero, List.set_cons_succ]
            clear ow5 ow6 ow7 ow8 ow9 ow22 ow13 ow14 ow15 ow16 ow122
            go_wp2
            try simp only [setCell_drawn]
            refine bodyPost_ret (by first | (simp [results, Try.results3, go_sem]; done) | (simp [results, Try.results3, go_sem]; rfl)) rfl ⟨?_, hW7⟩
            rfl
          · have t10_ := Lib.hid t10
            clear t10
            go_upto_region 10 with fail
            refine region_memo (B := W6.heap.size) (L := .val (.agg #[.int .i64 (a1 + e1), .int .i64 (a2 + e2)]) :: .val (.agg #[.int .i64 (b1 + e1), .int .i64 (b2 + e2)]) :: .val (.agg #[.int .i64 (c1 + e1), .int .i64 (c2 + e2)]) :: .val (.agg #[.int .i64 (d1 + e1), .int .i64 (d2 + e2)]) :: .new 23 #[.int .i64 (a1 + e1), .int .i64 (a2 + e2), .int .i64 (b1 + e1), .int .i64 (b2 + e2), .int .i64 (c1 + e1), .int .i64 (c2 + e2), .int .i64 (d1 + e1), .int .i64 (d2 + e2)] (some (4, 4)) :: .val (.bool true) :: .val (.bool false) :: .val (.bool false) :: .val (.agg #[.int .i64 (a1 + e1), .int .i64 (a2 + e2)]) :: .val (.agg #[.int .i64 (b1 + e1), .int .i64 (b2 + e2)]) :: .val (.agg #[.int .i64 (c1 + e1), .int .i64 (c2 + e2)]) :: .val (.int .i64 (tn a1 a2 b1 b2 c1 c2)) :: .val (.int .i64 (tn a1 a2 b1 b2 c1 c2)) :: .val (.bool true) :: .val (.bool true) :: .val (.agg #[.int .i64 (a1 + e1), .int .i64 (a2 + e2)]) :: .val (.agg #[.int .i64 (b1 + e1), .int .i64 (b2 + e2)]) :: .val (.agg #[.int .i64 (c1 + e1), .int .i64 (c2 + e2)]) :: .val (.agg #[.int .i64 (d1 + e1), .int .i64 (d2 + e2)]) :: .val (.bool false) :: .val (.bool false) :: .val (.bool true) :: .val (.bool true) :: .val (.bool true) :: .val (.agg #[.int .i64 (c1 + e1), .int .i64 (c2 + e2)]) :: .val (.agg #[.int .i64 (a1 + e1), .int .i64 (a2 + e2)]) :: .val (.agg #[.int .i64 (b1 + e1), .int .i64 (b2 + e2)]) :: .val (.bool false) :: .val (.agg #[.int .i64 c1, .int .i64 c2]) :: .val (.agg #[.int .i64 a1, .int .i64 a2]) :: .val (.agg #[.int .i64 b1, .int .i64 b2]) :: .val (.bool false) :: .val (.bool true) :: .val (.bool true) :: .val (.bool true) :: .val (.bool true) :: []) (by kernel_rfl) (by kernel_rfl) (Nat.le_refl _) ((by exact trivial))
              ⟨fun a w R => ld_P (R.slot 13 rfl) (R.keep ow13.drawn trivial) rfl rfl, fun a w R => ld_P (R.slot 14 rfl) (R.keep ow14.drawn trivial) rfl rfl, fun a w R => ld_P (R.slot 15 rfl) (R.keep ow15.drawn trivial) rfl rfl, fun a w R => ld_P (R.slot 16 rfl) (R.keep ow16.drawn trivial) rfl rfl, fun a w R => bsP_4 (R.val 0) (R.val 1) (R.val 2) (R.val 3), fun a w R => cl_n (enter_at Try.func11) (R.dep 4) (fun g hg => lawin4 t9_.out hg), fun a w R => notb (R.val 5), fun a w R => mv (R.val 6), fun a w R => ld_P (R.slot 13 rfl) (R.keep ow13.drawn trivial) rfl rfl, fun a w R => ld_P (R.slot 14 rfl) (R.keep ow14.drawn trivial) rfl rfl, fun a w R => ld_P (R.slot 15 rfl) (R.keep ow15.drawn trivial) rfl rfl, fun a w R => cl_ttt (enter_at Try.func13) (R.val 8) (R.val 9) (R.val 10) (Turn_is (in3_iff.2 ⟨(in4_iff.1 t9_.out).1, (in4_iff.1 t9_.out).2.1, (in4_iff.1 t9_.out).2.2.1⟩) tn_move _), fun a w R => mv (R.slot 11 rfl), fun a w R => c_eql_tt (R.val 11) (R.val 12) (Try.underlying3) (by simp), fun a w R => mv (R.val 13), fun a w R => ld_P (R.slot 13 rfl) (R.keep ow13.drawn trivial) rfl rfl, fun a w R => ld_P (R.slot 14 rfl) (R.keep ow14.drawn trivial) rfl rfl, fun a w R => ld_P (R.slot 15 rfl) (R.keep ow15.drawn trivial) rfl rfl, fun a w R => ld_P (R.slot 16 rfl) (R.keep ow16.drawn trivial) rfl rfl, fun a w R => cl_tttt (enter_at Try.func15) (R.val 15) (R.val 16) (R.val 17) (R.val 18) (Meet_is ((mt_move (in4_iff.2 ⟨(in5_iff.1 t1_.out).1, (in5_iff.1 t1_.out).2.1, (in5_iff.1 t1_.out).2.2.1, (in5_iff.1 t1_.out).2.2.2.1⟩) (in4_iff.2 ⟨(in4_iff.1 t9_.out).1, (in4_iff.1 t9_.out).2.1, (in4_iff.1 t9_.out).2.2.1, (in4_iff.1 t9_.out).2.2.2⟩)).trans t2_.out) _), fun a w R => mv (R.slot 12 rfl), fun a w R => cb_eql_tt (R.val 19) (R.val 20) rfl, fun a w R => pickt (R.val 14) (R.val 21), fun a w R => mv (R.val 22), fun a w R => ld_P (R.slot 15 rfl) (R.keep ow15.drawn trivial) rfl rfl, fun a w R => ld_P (R.slot 13 rfl) (R.keep ow13.drawn trivial) rfl rfl, fun a w R => ld_P (R.slot 14 rfl) (R.keep ow14.drawn trivial) rfl rfl, fun a w R => cl_ttt (enter_at Try.func16) (R.val 24) (R.val 25) (R.val 26) (On_is ((onB_move (in3_iff.2 ⟨(in5_iff.1 t1_.out).2.2.1, (in5_iff.1 t1_.out).1, (in5_iff.1 t1_.out).2.1⟩) (in3_iff.2 ⟨(in4_iff.1 t9_.out).2.2.1, (in4_iff.1 t9_.out).1, (in4_iff.1 t9_.out).2.1⟩)).trans t10_.out) _), fun a w R => ld_P (R.slot 7 rfl) (R.keep ow7.drawn trivial) rfl rfl, fun a w R => ld_P (R.slot 5 rfl) (R.keep ow5.drawn trivial) rfl rfl, fun a w R => ld_P (R.slot 6 rfl) (R.keep ow6.drawn trivial) rfl rfl, fun a w R => cl_ttt (enter_at Try.func16) (R.val 28) (R.val 29) (R.val 30) (On_is t10_.out _), fun a w R => cb_eql_tt (R.val 27) (R.val 31) rfl, fun a w R => pickt (R.val 23) (R.val 32), fun a w R => pickn (R.val 7) (R.val 33), fun a w R => asg (R.val 34), trivial⟩ (fun act_ W7 I => ?_)
            obtain ⟨gb122, ew122, lw122, ow122⟩ := I.new 4 rfl rfl rfl
            rw [I.act [(118, .agg #[.int .i64 (a1 + e1), .int .i64 (a2 + e2)]), (119, .agg #[.int .i64 (b1 + e1), .int .i64 (b2 + e2)]), (120, .agg #[.int .i64 (c1 + e1), .int .i64 (c2 + e2)]), (121, .agg #[.int .i64 (d1 + e1), .int .i64 (d2 + e2)]), (122, .slice (some ⟨gb122, 0, none⟩) 4 4), (123, .bool true), (124, .bool false), (125, .bool false), (126, .agg #[.int .i64 (a1 + e1), .int .i64 (a2 + e2)]), (127, .agg #[.int .i64 (b1 + e1), .int .i64 (b2 + e2)]), (128, .agg #[.int .i64 (c1 + e1), .int .i64 (c2 + e2)]), (129, .int .i64 (tn a1 a2 b1 b2 c1 c2)), (130, .int .i64 (tn a1 a2 b1 b2 c1 c2)), (131, .bool true), (132, .bool true), (133, .agg #[.int .i64 (a1 + e1), .int .i64 (a2 + e2)]), (134, .agg #[.int .i64 (b1 + e1), .int .i64 (b2 + e2)]), (135, .agg #[.int .i64 (c1 + e1), .int .i64 (c2 + e2)]), (136, .agg #[.int .i64 (d1 + e1), .int .i64 (d2 + e2)]), (137, .bool false), (138, .bool false), (139, .bool true), (140, .bool true), (141, .bool true), (142, .agg #[.int .i64 (c1 + e1), .int .i64 (c2 + e2)]), (143, .agg #[.int .i64 (a1 + e1), .int .i64 (a2 + e2)]), (144, .agg #[.int .i64 (b1 + e1), .int .i64 (b2 + e2)]), (145, .bool false), (146, .agg #[.int .i64 c1, .int .i64 c2]), (147, .agg #[.int .i64 a1, .int .i64 a2]), (148, .agg #[.int .i64 b1, .int .i64 b2]), (149, .bool false), (150, .bool true), (151, .bool true), (152, .bool true), (10, .bool true)]
              ⟨I.val 0, I.val 1, I.val 2, I.val 3, ew122, I.val 5, I.val 6, I.val 7, I.val 8, I.val 9, I.val 10, I.val 11, I.val 12, I.val 13, I.val 14, I.val 15, I.val 16, I.val 17, I.val 18, I.val 19, I.val 20, I.val 21, I.val 22, I.val 23, I.val 24, I.val 25, I.val 26, I.val 27, I.val 28, I.val 29, I.val 30, I.val 31, I.val 32, I.val 33, I.val 34, I.val 35, trivial⟩ rfl]
            change W6.heap.size ≤ gb122 at lw122
            have sW7 : W6.heap.size ≤ W7.heap.size := I.below.size
            replace ow5 := I.keep ow5.drawn trivial
            replace ow6 := I.keep ow6.drawn trivial
            replace ow7 := I.keep ow7.drawn trivial
            replace ow8 := I.keep ow8.drawn trivial
            replace ow9 := I.keep ow9.drawn trivial
            replace ow22 := I.keep ow22.drawn trivial
            replace ow13 := I.keep ow13.drawn trivial
            replace ow14 := I.keep ow14.drawn trivial
            replace ow15 := I.keep ow15.drawn trivial
            replace ow16 := I.keep ow16.drawn trivial
            have hW7 : Below w.heap.size w W7 := then_ hW6.drew I.below hW6.size
            clear ew122
            clear I
            simp only [List.foldl_cons, List.foldl_nil, List.setIfInBounds_toArray, List.set_cons_zero, List.set_cons_succ]
            clear ow5 ow6 ow7 ow8 ow9 ow22 ow13 ow14 ow15 ow16 ow122
            go_wp2
            try simp only [setCell_drawn]
            refine bodyPost_ret (by first | (simp [results, Try.results3, go_sem]; done) | (simp [results, Try.results3, go_sem]; rfl)) rfl ⟨?_, hW7⟩
            rfl
        · have t9_ := Lib.hid t9
          clear t9
          go_upto_region 10 with fail
          refine region_memo (B := W6.heap.size) (L := .val (.agg #[.int .i64 (a1 + e1), .int .i64 (a2 + e2)]) :: .val (.agg #[.int .i64 (b1 + e1), .int .i64 (b2 + e2)]) :: .val (.agg #[.int .i64 (c1 + e1), .int .i64 (c2 + e2)]) :: .val (.agg #[.int .i64 (d1 + e1), .int .i64 (d2 + e2)]) :: .new 23 #[.int .i64 (a1 + e1), .int .i64 (a2 + e2), .int .i64 (b1 + e1), .int .i64 (b2 + e2), .int .i64 (c1 + e1), .int .i64 (c2 + e2), .int .i64 (d1 + e1), .int .i64 (d2 + e2)] (some (4, 4)) :: .val (.bool false) :: .val (.bool true) :: .val (.bool true) :: .skip :: .skip :: .skip :: .skip :: .skip :: .skip :: .skip :: .skip :: .skip :: .skip :: .skip :: .skip :: .skip :: .skip :: .skip :: .skip :: .skip :: .skip :: .skip :: .skip :: .skip :: .skip :: .skip :: .skip :: .skip :: .skip :: .val (.bool true) :: .val (.bool true) :: []) (by kernel_rfl) (by kernel_rfl) (Nat.le_refl _) ((by exact trivial))
            ⟨fun a w R => ld_P (R.slot 13 rfl) (R.keep ow13.drawn trivial) rfl rfl, fun a w R => ld_P (R.slot 14 rfl) (R.keep ow14.drawn trivial) rfl rfl, fun a w R => ld_P (R.slot 15 rfl) (R.keep ow15.drawn trivial) rfl rfl, fun a w R => ld_P (R.slot 16 rfl) (R.keep ow16.drawn trivial) rfl rfl, fun a w R => bsP_4 (R.val 0) (R.val 1) (R.val 2) (R.val 3), fun a w R => cl_n (enter_at Try.func11) (R.dep 4) (fun g hg => lawin4 t9_.out hg), fun a w R => notb (R.val 5), fun a w R => mv (R.val 6), fun a w R => True.intro, fun a w R => True.intro, fun a w R => True.intro, fun a w R => True.intro, fun a w R => True.intro, fun a w R => True.intro, fun a w R => True.intro, fun a w R => True.intro, fun a w R => True.intro, fun a w R => True.intro, fun a w R => True.intro, fun a w R => True.intro, fun a w R => True.intro, fun a w R => True.intro, fun a w R => True.intro, fun a w R => True.intro, fun a w R => True.intro, fun a w R => True.intro, fun a w R => True.intro, fun a w R => True.intro, fun a w R => True.intro, fun a w R => True.intro, fun a w R => True.intro, fun a w R => True.intro, fun a w R => True.intro, fun a w R => True.intro, fun a w R => picko (R.val 7) (R.goneS 33), fun a w R => asg (R.val 34), trivial⟩ (fun act_ W7 I => ?_)
          obtain ⟨gb122, ew122, lw122, ow122⟩ := I.new 4 rfl rfl rfl
          rw [I.act [(118, .agg #[.int .i64 (a1 + e1), .int .i64 (a2 + e2)]), (119, .agg #[.int .i64 (b1 + e1), .int .i64 (b2 + e2)]), (120, .agg #[.int .i64 (c1 + e1), .int .i64 (c2 + e2)]), (121, .agg #[.int .i64 (d1 + e1), .int .i64 (d2 + e2)]), (122, .slice (some ⟨gb122, 0, none⟩) 4 4), (123, .bool false), (124, .bool true), (125, .bool true), (126, undef), (127, undef), (128, undef), (129, undef), (130, undef), (131, undef), (132, undef), (133, undef), (134, undef), (135, undef), (136, undef), (137, undef), (138, undef), (139, undef), (140, undef), (141, undef), (142, undef), (143, undef), (144, undef), (145, undef), (146, undef), (147, undef), (148, undef), (149, undef), (150, undef), (151, undef), (152, .bool true), (10, .bool true)]
            ⟨I.val 0, I.val 1, I.val 2, I.val 3, ew122, I.val 5, I.val 6, I.val 7, I.gone 8, I.gone 9, I.gone 10, I.gone 11, I.gone 12, I.gone 13, I.gone 14, I.gone 15, I.gone 16, I.gone 17, I.gone 18, I.gone 19, I.gone 20, I.gone 21, I.gone 22, I.gone 23, I.gone 24, I.gone 25, I.gone 26, I.gone 27, I.gone 28, I.gone 29, I.gone 30, I.gone 31, I.gone 32, I.gone 33, I.val 34, I.val 35, trivial⟩ rfl]
          change W6.heap.size ≤ gb122 at lw122
          have sW7 : W6.heap.size ≤ W7.heap.size := I.below.size
          replace ow5 := I.keep ow5.drawn trivial
          replace ow6 := I.keep ow6.drawn trivial
          replace ow7 := I.keep ow7.drawn trivial
          replace ow8 := I.keep ow8.drawn trivial
          replace ow9 := I.keep ow9.drawn trivial
          replace ow22 := I.keep ow22.drawn trivial
          replace ow13 := I.keep ow13.drawn trivial
          replace ow14 := I.keep ow14.drawn trivial
          replace ow15 := I.keep ow15.drawn trivial
          replace ow16 := I.keep ow16.drawn trivial
          have hW7 : Below w.heap.size w W7 := then_ hW6.drew I.below hW6.size
          clear ew122
          clear I
          simp only [List.foldl_cons, List.foldl_nil, List.setIfInBounds_toArray, List.set_cons_zero, List.set_cons_succ]
          clear ow5 ow6 ow7 ow8 ow9 ow22 ow13 ow14 ow15 ow16 ow122
          go_wp2
          try simp only [setCell_drawn]
          refine bodyPost_ret (by first | (simp [results, Try.results3, go_sem]; done) | (simp [results, Try.results3, go_sem]; rfl)) rfl ⟨?_, hW7⟩
          rfl
      · have t8_ := Lib.hid t8
        clear t8
        go_upto_region 7 with fail
        refine region_memo (B := W4.heap.size) (L := .val (.agg #[.int .i64 b1, .int .i64 b2]) :: .val (.agg #[.int .i64 a1, .int .i64 a2]) :: .val (.agg #[.int .i64 c1, .int .i64 c2]) :: .val (.agg #[.int .i64 d1, .int .i64 d2]) :: .val (.bool false) :: .val (.bool false) :: .val (.bool false) :: .val (.bool false) :: .val (.agg #[.int .i64 c1, .int .i64 c2]) :: .val (.agg #[.int .i64 d1, .int .i64 d2]) :: .val (.agg #[.int .i64 a1, .int .i64 a2]) :: .val (.agg #[.int .i64 b1, .int .i64 b2]) :: .val (.bool false) :: .val (.bool false) :: .val (.bool false) :: .val (.bool false) :: .val (.bool false) :: .val (.agg #[.int .i64 a1, .int .i64 a2]) :: .val (.agg #[.int .i64 a2, .int .i64 a1]) :: .val (.agg #[.int .i64 b1, .int .i64 b2]) :: .val (.agg #[.int .i64 b2, .int .i64 b1]) :: .val (.agg #[.int .i64 c1, .int .i64 c2]) :: .val (.agg #[.int .i64 c2, .int .i64 c1]) :: .val (.agg #[.int .i64 d1, .int .i64 d2]) :: .val (.agg #[.int .i64 d2, .int .i64 d1]) :: .val (.bool false) :: .val (.bool false) :: .val (.bool false) :: .val (.bool false) :: .val (.bool false) :: .val (.agg #[.int .i64 a1, .int .i64 a2]) :: .val (.agg #[.int .i64 b1, .int .i64 b2]) :: .val (.agg #[.int .i64 c1, .int .i64 c2]) :: .val (.bool false) :: .val (.agg #[.int .i64 a1, .int .i64 a2]) :: .val (.agg #[.int .i64 c1, .int .i64 c2]) :: .val (.agg #[.int .i64 b1, .int .i64 b2]) :: .val (.bool false) :: .val (.bool false) :: .val (.bool false) :: []) (by kernel_rfl) (by kernel_rfl) (Nat.le_refl _) ((by exact trivial))
          ⟨fun a w R => ld_P (R.slot 6 rfl) (R.keep ow6.drawn trivial) rfl rfl, fun a w R => ld_P (R.slot 5 rfl) (R.keep ow5.drawn trivial) rfl rfl, fun a w R => ld_P (R.slot 7 rfl) (R.keep ow7.drawn trivial) rfl rfl, fun a w R => ld_P (R.slot 8 rfl) (R.keep ow8.drawn trivial) rfl rfl, fun a w R => cl_tttt (enter_at Try.func15) (R.val 0) (R.val 1) (R.val 2) (R.val 3) (Meet_is (mt_ba.trans t2_.out) _), fun a w R => mv (R.slot 12 rfl), fun a w R => cb_neq_tt (R.val 4) (R.val 5) rfl, fun a w R => mv (R.val 6), fun a w R => ld_P (R.slot 7 rfl) (R.keep ow7.drawn trivial) rfl rfl, fun a w R => ld_P (R.slot 8 rfl) (R.keep ow8.drawn trivial) rfl rfl, fun a w R => ld_P (R.slot 5 rfl) (R.keep ow5.drawn trivial) rfl rfl, fun a w R => ld_P (R.slot 6 rfl) (R.keep ow6.drawn trivial) rfl rfl, fun a w R => cl_tttt (enter_at Try.func15) (R.val 8) (R.val 9) (R.val 10) (R.val 11) (Meet_is (mt_cd.trans t2_.out) _), fun a w R => mv (R.slot 12 rfl), fun a w R => cb_neq_tt (R.val 12) (R.val 13) rfl, fun a w R => pickn (R.val 7) (R.val 14), fun a w R => mv (R.val 15), fun a w R => ld_P (R.slot 5 rfl) (R.keep ow5.drawn trivial) rfl rfl, fun a w R => cl_t (enter_at Try.func14) (R.val 17) (flip_any _), fun a w R => ld_P (R.slot 6 rfl) (R.keep ow6.drawn trivial) rfl rfl, fun a w R => cl_t (enter_at Try.func14) (R.val 19) (flip_any _), fun a w R => ld_P (R.slot 7 rfl) (R.keep ow7.drawn trivial) rfl rfl, fun a w R => cl_t (enter_at Try.func14) (R.val 21) (flip_any _), fun a w R => ld_P (R.slot 8 rfl) (R.keep ow8.drawn trivial) rfl rfl, fun a w R => cl_t (enter_at Try.func14) (R.val 23) (flip_any _), fun a w R => cl_tttt (enter_at Try.func15) (R.val 18) (R.val 20) (R.val 22) (R.val 24) (Meet_is (mt_flip.trans t2_.out) _), fun a w R => mv (R.slot 12 rfl), fun a w R => cb_neq_tt (R.val 25) (R.val 26) rfl, fun a w R => pickn (R.val 16) (R.val 27), fun a w R => mv (R.val 28), fun a w R => ld_P (R.slot 5 rfl) (R.keep ow5.drawn trivial) rfl rfl, fun a w R => ld_P (R.slot 6 rfl) (R.keep ow6.drawn trivial) rfl rfl, fun a w R => ld_P (R.slot 7 rfl) (R.keep ow7.drawn trivial) rfl rfl, fun a w R => cl_ttt (enter_at Try.func16) (R.val 30) (R.val 31) (R.val 32) (On_is t8_.out _), fun a w R => ld_P (R.slot 5 rfl) (R.keep ow5.drawn trivial) rfl rfl, fun a w R => ld_P (R.slot 7 rfl) (R.keep ow7.drawn trivial) rfl rfl, fun a w R => ld_P (R.slot 6 rfl) (R.keep ow6.drawn trivial) rfl rfl, fun a w R => cl_ttt (enter_at Try.func16) (R.val 34) (R.val 35) (R.val 36) (On_is (on_ac.trans t8_.out) _), fun a w R => cb_neq_tt (R.val 33) (R.val 37) rfl, fun a w R => pickn (R.val 29) (R.val 38), trivial⟩ (fun act_ W5 I => ?_)
        rw [I.act [(66, .agg #[.int .i64 b1, .int .i64 b2]), (67, .agg #[.int .i64 a1, .int .i64 a2]), (68, .agg #[.int .i64 c1, .int .i64 c2]), (69, .agg #[.int .i64 d1, .int .i64 d2]), (70, .bool false), (71, .bool false), (72, .bool false), (73, .bool false), (74, .agg #[.int .i64 c1, .int .i64 c2]), (75, .agg #[.int .i64 d1, .int .i64 d2]), (76, .agg #[.int .i64 a1, .int .i64 a2]), (77, .agg #[.int .i64 b1, .int .i64 b2]), (78, .bool false), (79, .bool false), (80, .bool false), (81, .bool false), (82, .bool false), (83, .agg #[.int .i64 a1, .int .i64 a2]), (84, .agg #[.int .i64 a2, .int .i64 a1]), (85, .agg #[.int .i64 b1, .int .i64 b2]), (86, .agg #[.int .i64 b2, .int .i64 b1]), (87, .agg #[.int .i64 c1, .int .i64 c2]), (88, .agg #[.int .i64 c2, .int .i64 c1]), (89, .agg #[.int .i64 d1, .int .i64 d2]), (90, .agg #[.int .i64 d2, .int .i64 d1]), (91, .bool false), (92, .bool false), (93, .bool false), (94, .bool false), (95, .bool false), (96, .agg #[.int .i64 a1, .int .i64 a2]), (97, .agg #[.int .i64 b1, .int .i64 b2]), (98, .agg #[.int .i64 c1, .int .i64 c2]), (99, .bool false), (100, .agg #[.int .i64 a1, .int .i64 a2]), (101, .agg #[.int .i64 c1, .int .i64 c2]), (102, .agg #[.int .i64 b1, .int .i64 b2]), (103, .bool false), (104, .bool false), (105, .bool false)]
          ⟨I.val 0, I.val 1, I.val 2, I.val 3, I.val 4, I.val 5, I.val 6, I.val 7, I.val 8, I.val 9, I.val 10, I.val 11, I.val 12, I.val 13, I.val 14, I.val 15, I.val 16, I.val 17, I.val 18, I.val 19, I.val 20, I.val 21, I.val 22, I.val 23, I.val 24, I.val 25, I.val 26, I.val 27, I.val 28, I.val 29, I.val 30, I.val 31, I.val 32, I.val 33, I.val 34, I.val 35, I.val 36, I.val 37, I.val 38, I.val 39, trivial⟩ rfl]
        have sW5 : W4.heap.size ≤ W5.heap.size := I.below.size
        replace ow5 := I.keep ow5.drawn trivial
        replace ow6 := I.keep ow6.drawn trivial
        replace ow7 := I.keep ow7.drawn trivial
        replace ow8 := I.keep ow8.drawn trivial
        replace ow9 := I.keep ow9.drawn trivial
        replace ow22 := I.keep ow22.drawn trivial
        have hW5 : Below w.heap.size w W5 := then_ hW4.drew I.below hW4.size
        clear I
        simp only [List.foldl_cons, List.foldl_nil, List.setIfInBounds_toArray, List.set_cons_zero, List.set_cons_succ]
        go_upto_region 9 with fail
        refine region_memo (B := W5.heap.size) (L := .val (.agg #[.int .i64 a1, .int .i64 a2]) :: .val (.agg #[.int .i64 e1, .int .i64 e2]) :: .val (.agg #[.int .i64 (a1 + e1), .int .i64 (a2 + e2)]) :: .val (.agg #[.int .i64 b1, .int .i64 b2]) :: .val (.agg #[.int .i64 e1, .int .i64 e2]) :: .val (.agg #[.int .i64 (b1 + e1), .int .i64 (b2 + e2)]) :: .val (.agg #[.int .i64 c1, .int .i64 c2]) :: .val (.agg #[.int .i64 e1, .int .i64 e2]) :: .val (.agg #[.int .i64 (c1 + e1), .int .i64 (c2 + e2)]) :: .val (.agg #[.int .i64 d1, .int .i64 d2]) :: .val (.agg #[.int .i64 e1, .int .i64 e2]) :: .val (.agg #[.int .i64 (d1 + e1), .int .i64 (d2 + e2)]) :: .blk 23 2 :: .blk 23 2 :: .blk 23 2 :: .blk 23 2 :: .put 13 23 #[.int .i64 (a1 + e1), .int .i64 (a2 + e2)] :: .put 14 23 #[.int .i64 (b1 + e1), .int .i64 (b2 + e2)] :: .put 15 23 #[.int .i64 (c1 + e1), .int .i64 (c2 + e2)] :: .put 16 23 #[.int .i64 (d1 + e1), .int .i64 (d2 + e2)] :: []) (by kernel_rfl) (by kernel_rfl) (Nat.le_refl _) ((by exact trivial))
          ⟨fun a w R => ld_P (R.slot 5 rfl) (R.keep ow5.drawn trivial) rfl rfl, fun a w R => ld_P (R.slot 9 rfl) (R.keep ow9.drawn trivial) rfl rfl, fun a w R => cl_tt (enter_at Try.func17) (R.val 0) (R.val 1) (move_any (in5_iff.1 t1_.out).1 (in5_iff.1 t1_.out).2.2.2.2 _), fun a w R => ld_P (R.slot 6 rfl) (R.keep ow6.drawn trivial) rfl rfl, fun a w R => ld_P (R.slot 9 rfl) (R.keep ow9.drawn trivial) rfl rfl, fun a w R => cl_tt (enter_at Try.func17) (R.val 3) (R.val 4) (move_any (in5_iff.1 t1_.out).2.1 (in5_iff.1 t1_.out).2.2.2.2 _), fun a w R => ld_P (R.slot 7 rfl) (R.keep ow7.drawn trivial) rfl rfl, fun a w R => ld_P (R.slot 9 rfl) (R.keep ow9.drawn trivial) rfl rfl, fun a w R => cl_tt (enter_at Try.func17) (R.val 6) (R.val 7) (move_any (in5_iff.1 t1_.out).2.2.1 (in5_iff.1 t1_.out).2.2.2.2 _), fun a w R => ld_P (R.slot 8 rfl) (R.keep ow8.drawn trivial) rfl rfl, fun a w R => ld_P (R.slot 9 rfl) (R.keep ow9.drawn trivial) rfl rfl, fun a w R => cl_tt (enter_at Try.func17) (R.val 9) (R.val 10) (move_any (in5_iff.1 t1_.out).2.2.2.1 (in5_iff.1 t1_.out).2.2.2.2 _), fun a w R => al_P, fun a w R => al_P, fun a w R => al_P, fun a w R => al_P, fun a w R => sb_P (R.dep 12) (R.val 2), fun a w R => sb_P (R.dep 13) (R.val 5), fun a w R => sb_P (R.dep 14) (R.val 8), fun a w R => sb_P (R.dep 15) (R.val 11), trivial⟩ (fun act_ W6 I => ?_)
        obtain ⟨gb13, ew13, lw13, ow13⟩ := I.put 16 rfl rfl
        obtain ⟨gb14, ew14, lw14, ow14⟩ := I.put 17 rfl rfl
        obtain ⟨gb15, ew15, lw15, ow15⟩ := I.put 18 rfl rfl
        obtain ⟨gb16, ew16, lw16, ow16⟩ := I.put 19 rfl rfl
        have nw13_14 := I.apart2 12 13 rfl rfl (by omega) rfl rfl rfl rfl ew13 ew14
        have nw13_15 := I.apart2 12 14 rfl rfl (by omega) rfl rfl rfl rfl ew13 ew15
        have nw13_16 := I.apart2 12 15 rfl rfl (by omega) rfl rfl rfl rfl ew13 ew16
        have nw14_15 := I.apart2 13 14 rfl rfl (by omega) rfl rfl rfl rfl ew14 ew15
        have nw14_16 := I.apart2 13 15 rfl rfl (by omega) rfl rfl rfl rfl ew14 ew16
        have nw15_16 := I.apart2 14 15 rfl rfl (by omega) rfl rfl rfl rfl ew15 ew16
        rw [I.act [(106, .agg #[.int .i64 a1, .int .i64 a2]), (107, .agg #[.int .i64 e1, .int .i64 e2]), (108, .agg #[.int .i64 (a1 + e1), .int .i64 (a2 + e2)]), (109, .agg #[.int .i64 b1, .int .i64 b2]), (110, .agg #[.int .i64 e1, .int .i64 e2]), (111, .agg #[.int .i64 (b1 + e1), .int .i64 (b2 + e2)]), (112, .agg #[.int .i64 c1, .int .i64 c2]), (113, .agg #[.int .i64 e1, .int .i64 e2]), (114, .agg #[.int .i64 (c1 + e1), .int .i64 (c2 + e2)]), (115, .agg #[.int .i64 d1, .int .i64 d2]), (116, .agg #[.int .i64 e1, .int .i64 e2]), (117, .agg #[.int .i64 (d1 + e1), .int .i64 (d2 + e2)]), (13, .pointer (some ⟨gb13, 0, none⟩)), (14, .pointer (some ⟨gb14, 0, none⟩)), (15, .pointer (some ⟨gb15, 0, none⟩)), (16, .pointer (some ⟨gb16, 0, none⟩))]
          ⟨I.val 0, I.val 1, I.val 2, I.val 3, I.val 4, I.val 5, I.val 6, I.val 7, I.val 8, I.val 9, I.val 10, I.val 11, ew13, ew14, ew15, ew16, trivial⟩ rfl]
        change W5.heap.size ≤ gb13 at lw13
        change W5.heap.size ≤ gb14 at lw14
        change W5.heap.size ≤ gb15 at lw15
        change W5.heap.size ≤ gb16 at lw16
        have sW6 : W5.heap.size ≤ W6.heap.size := I.below.size
        replace ow5 := I.keep ow5.drawn trivial
        replace ow6 := I.keep ow6.drawn trivial
        replace ow7 := I.keep ow7.drawn trivial
        replace ow8 := I.keep ow8.drawn trivial
        replace ow9 := I.keep ow9.drawn trivial
        replace ow22 := I.keep ow22.drawn trivial
        have hW6 : Below w.heap.size w W6 := then_ hW5.drew I.below hW5.size
        clear ew13 ew14 ew15 ew16
        clear I
        simp only [List.foldl_cons, List.foldl_nil, List.setIfInBounds_toArray, List.set_cons_zero, List.set_cons_succ]
        rcases Bool.eq_false_or_eq_true (in4 (a1 + e1) (a2 + e2) (b1 + e1) (b2 + e2) (c1 + e1) (c2 + e2) (d1 + e1) (d2 + e2)) with t11 | t11
        · have t11_ := Lib.hid t11
          clear t11
          rcases Bool.eq_false_or_eq_true (onB c1 c2 a1 a2 b1 b2) with t12 | t12
          · have t12_ := Lib.hid t12
            clear t12
            go_upto_region 10 with fail
            refine region_memo (B := W6.heap.size) (L := .val (.agg #[.int .i64 (a1 + e1), .int .i64 (a2 + e2)]) :: .val (.agg #[.int .i64 (b1 + e1), .int .i64 (b2 + e2)]) :: .val (.agg #[.int .i64 (c1 + e1), .int .i64 (c2 + e2)]) :: .val (.agg #[.int .i64 (d1 + e1), .int .i64 (d2 + e2)]) :: .new 23 #[.int .i64 (a1 + e1), .int .i64 (a2 + e2), .int .i64 (b1 + e1), .int .i64 (b2 + e2), .int .i64 (c1 + e1), .int .i64 (c2 + e2), .int .i64 (d1 + e1), .int .i64 (d2 + e2)] (some (4, 4)) :: .val (.bool true) :: .val (.bool false) :: .val (.bool false) :: .val (.agg #[.int .i64 (a1 + e1), .int .i64 (a2 + e2)]) :: .val (.agg #[.int .i64 (b1 + e1), .int .i64 (b2 + e2)]) :: .val (.agg #[.int .i64 (c1 + e1), .int .i64 (c2 + e2)]) :: .val (.int .i64 (tn a1 a2 b1 b2 c1 c2)) :: .val (.int .i64 (tn a1 a2 b1 b2 c1 c2)) :: .val (.bool true) :: .val (.bool true) :: .val (.agg #[.int .i64 (a1 + e1), .int .i64 (a2 + e2)]) :: .val (.agg #[.int .i64 (b1 + e1), .int .i64 (b2 + e2)]) :: .val (.agg #[.int .i64 (c1 + e1), .int .i64 (c2 + e2)]) :: .val (.agg #[.int .i64 (d1 + e1), .int .i64 (d2 + e2)]) :: .val (.bool false) :: .val (.bool false) :: .val (.bool true) :: .val (.bool true) :: .val (.bool true) :: .val (.agg #[.int .i64 (c1 + e1), .int .i64 (c2 + e2)]) :: .val (.agg #[.int .i64 (a1 + e1), .int .i64 (a2 + e2)]) :: .val (.agg #[.int .i64 (b1 + e1), .int .i64 (b2 + e2)]) :: .val (.bool true) :: .val (.agg #[.int .i64 c1, .int .i64 c2]) :: .val (.agg #[.int .i64 a1, .int .i64 a2]) :: .val (.agg #[.int .i64 b1, .int .i64 b2]) :: .val (.bool true) :: .val (.bool true) :: .val (.bool true) :: .val (.bool true) :: .val (.bool true) :: []) (by kernel_rfl) (by kernel_rfl) (Nat.le_refl _) ((by exact trivial))
              ⟨fun a w R => ld_P (R.slot 13 rfl) (R.keep ow13.drawn trivial) rfl rfl, fun a w R => ld_P (R.slot 14 rfl) (R.keep ow14.drawn trivial) rfl rfl, fun a w R => ld_P (R.slot 15 rfl) (R.keep ow15.drawn trivial) rfl rfl, fun a w R => ld_P (R.slot 16 rfl) (R.keep ow16.drawn trivial) rfl rfl, fun a w R => bsP_4 (R.val 0) (R.val 1) (R.val 2) (R.val 3), fun a w R => cl_n (enter_at Try.func11) (R.dep 4) (fun g hg => lawin4 t11_.out hg), fun a w R => notb (R.val 5), fun a w R => mv (R.val 6), fun a w R => ld_P (R.slot 13 rfl) (R.keep ow13.drawn trivial) rfl rfl, fun a w R => ld_P (R.slot 14 rfl) (R.keep ow14.drawn trivial) rfl rfl, fun a w R => ld_P (R.slot 15 rfl) (R.keep ow15.drawn trivial) rfl rfl, fun a w R => cl_ttt (enter_at Try.func13) (R.val 8) (R.val 9) (R.val 10) (Turn_is (in3_iff.2 ⟨(in4_iff.1 t11_.out).1, (in4_iff.1 t11_.out).2.1, (in4_iff.1 t11_.out).2.2.1⟩) tn_move _), fun a w R => mv (R.slot 11 rfl), fun a w R => c_eql_tt (R.val 11) (R.val 12) (Try.underlying3) (by simp), fun a w R => mv (R.val 13), fun a w R => ld_P (R.slot 13 rfl) (R.keep ow13.drawn trivial) rfl rfl, fun a w R => ld_P (R.slot 14 rfl) (R.keep ow14.drawn trivial) rfl rfl, fun a w R => ld_P (R.slot 15 rfl) (R.keep ow15.drawn trivial) rfl rfl, fun a w R => ld_P (R.slot 16 rfl) (R.keep ow16.drawn trivial) rfl rfl, fun a w R => cl_tttt (enter_at Try.func15) (R.val 15) (R.val 16) (R.val 17) (R.val 18) (Meet_is ((mt_move (in4_iff.2 ⟨(in5_iff.1 t1_.out).1, (in5_iff.1 t1_.out).2.1, (in5_iff.1 t1_.out).2.2.1, (in5_iff.1 t1_.out).2.2.2.1⟩) (in4_iff.2 ⟨(in4_iff.1 t11_.out).1, (in4_iff.1 t11_.out).2.1, (in4_iff.1 t11_.out).2.2.1, (in4_iff.1 t11_.out).2.2.2⟩)).trans t2_.out) _), fun a w R => mv (R.slot 12 rfl), fun a w R => cb_eql_tt (R.val 19) (R.val 20) rfl, fun a w R => pickt (R.val 14) (R.val 21), fun a w R => mv (R.val 22), fun a w R => ld_P (R.slot 15 rfl) (R.keep ow15.drawn trivial) rfl rfl, fun a w R => ld_P (R.slot 13 rfl) (R.keep ow13.drawn trivial) rfl rfl, fun a w R => ld_P (R.slot 14 rfl) (R.keep ow14.drawn trivial) rfl rfl, fun a w R => cl_ttt (enter_at Try.func16) (R.val 24) (R.val 25) (R.val 26) (On_is ((onB_move (in3_iff.2 ⟨(in5_iff.1 t1_.out).2.2.1, (in5_iff.1 t1_.out).1, (in5_iff.1 t1_.out).2.1⟩) (in3_iff.2 ⟨(in4_iff.1 t11_.out).2.2.1, (in4_iff.1 t11_.out).1, (in4_iff.1 t11_.out).2.1⟩)).trans t12_.out) _), fun a w R => ld_P (R.slot 7 rfl) (R.keep ow7.drawn trivial) rfl rfl, fun a w R => ld_P (R.slot 5 rfl) (R.keep ow5.drawn trivial) rfl rfl, fun a w R => ld_P (R.slot 6 rfl) (R.keep ow6.drawn trivial) rfl rfl, fun a w R => cl_ttt (enter_at Try.func16) (R.val 28) (R.val 29) (R.val 30) (On_is t12_.out _), fun a w R => cb_eql_tt (R.val 27) (R.val 31) rfl, fun a w R => pickt (R.val 23) (R.val 32), fun a w R => pickn (R.val 7) (R.val 33), fun a w R => asg (R.val 34), trivial⟩ (fun act_ W7 I => ?_)
            obtain ⟨gb122, ew122, lw122, ow122⟩ := I.new 4 rfl rfl rfl
            rw [I.act [(118, .agg #[.int .i64 (a1 + e1), .int .i64 (a2 + e2)]), (119, .agg #[.int .i64 (b1 + e1), .int .i64 (b2 + e2)]), (120, .agg #[.int .i64 (c1 + e1), .int .i64 (c2 + e2)]), (121, .agg #[.int .i64 (d1 + e1), .int .i64 (d2 + e2)]), (122, .slice (some ⟨gb122, 0, none⟩) 4 4), (123, .bool true), (124, .bool false), (125, .bool false), (126, .agg #[.int .i64 (a1 + e1), .int .i64 (a2 + e2)]), (127, .agg #[.int .i64 (b1 + e1), .int .i64 (b2 + e2)]), (128, .agg #[.int .i64 (c1 + e1), .int .i64 (c2 + e2)]), (129, .int .i64 (tn a1 a2 b1 b2 c1 c2)), (130, .int .i64 (tn a1 a2 b1 b2 c1 c2)), (131, .bool true), (132, .bool true), (133, .agg #[.int .i64 (a1 + e1), .int .i64 (a2 + e2)]), (134, .agg #[.int .i64 (b1 + e1), .int .i64 (b2 + e2)]), (135, .agg #[.int .i64 (c1 + e1), .int .i64 (c2 + e2)]), (136, .agg #[.int .i64 (d1 + e1), .int .i64 (d2 + e2)]), (137, .bool false), (138, .bool false), (139, .bool true), (140, .bool true), (141, .bool true), (142, .agg #[.int .i64 (c1 + e1), .int .i64 (c2 + e2)]), (143, .agg #[.int .i64 (a1 + e1), .int .i64 (a2 + e2)]), (144, .agg #[.int .i64 (b1 + e1), .int .i64 (b2 + e2)]), (145, .bool true), (146, .agg #[.int .i64 c1, .int .i64 c2]), (147, .agg #[.int .i64 a1, .int .i64 a2]), (148, .agg #[.int .i64 b1, .int .i64 b2]), (149, .bool true), (150, .bool true), (151, .bool true), (152, .bool true), (10, .bool true)]
              ⟨I.val 0, I.val 1, I.val 2, I.val 3, ew122, I.val 5, I.val 6, I.val 7, I.val 8, I.val 9, I.val 10, I.val 11, I.val 12, I.val 13, I.val 14, I.val 15, I.val 16, I.val 17, I.val 18, I.val 19, I.val 20, I.val 21, I.val 22, I.val 23, I.val 24, I.val 25, I.val 26, I.val 27, I.val 28, I.val 29, I.val 30, I.val 31, I.val 32, I.val 33, I.val 34, I.val 35, trivial⟩ rfl]
            change W6.heap.size ≤ gb122 at lw122
            have sW7 : W6.heap.size ≤ W7.heap.size := I.below.size
            replace ow5 := I.keep ow5.drawn trivial
            replace ow6 := I.keep ow6.drawn trivial
            replace ow7 := I.keep ow7.drawn trivial
            replace ow8 := I.keep ow8.drawn trivial
            replace ow9 := I.keep ow9.drawn trivial
            replace ow22 := I.keep ow22.drawn trivial
            replace ow13 := I.keep ow13.drawn trivial
            replace ow14 := I.keep ow14.drawn trivial
            replace ow15 := I.keep ow15.drawn trivial
            replace ow16 := I.keep ow16.drawn trivial
            have hW7 : Below w.heap.size w W7 := then_ hW6.drew I.below hW6.size
            clear ew122
            clear I
            simp only [List.foldl_cons, List.foldl_nil, List.setIfInBounds_toArray, List.set_cons_zero, List.set_cons_succ]
            clear ow5 ow6 ow7 ow8 ow9 ow22 ow13 ow14 ow15 ow16 ow122
            go_wp2
            try simp only [setCell_drawn]
            refine bodyPost_ret (by first | (simp [results, Try.results3, go_sem]; done) | (simp [results, Try.results3, go_sem]; rfl)) rfl ⟨?_, hW7⟩
            rfl
          · have t12_ := Lib.hid t12
            clear t12
            go_upto_region 10 with fail
            refine region_memo (B := W6.heap.size) (L := .val (.agg #[.int .i64 (a1 + e1), .int .i64 (a2 + e2)]) :: .val (.agg #[.int .i64 (b1 + e1), .int .i64 (b2 + e2)]) :: .val (.agg #[.int .i64 (c1 + e1), .int .i64 (c2 + e2)]) :: .val (.agg #[.int .i64 (d1 + e1), .int .i64 (d2 + e2)]) :: .new 23 #[.int .i64 (a1 + e1), .int .i64 (a2 + e2), .int .i64 (b1 + e1), .int .i64 (b2 + e2), .int .i64 (c1 + e1), .int .i64 (c2 + e2), .int .i64 (d1 + e1), .int .i64 (d2 + e2)] (some (4, 4)) :: .val (.bool true) :: .val (.bool false) :: .val (.bool false) :: .val (.agg #[.int .i64 (a1 + e1), .int .i64 (a2 + e2)]) :: .val (.agg #[.int .i64 (b1 + e1), .int .i64 (b2 + e2)]) :: .val (.agg #[.int .i64 (c1 + e1), .int .i64 (c2 + e2)]) :: .val (.int .i64 (tn a1 a2 b1 b2 c1 c2)) :: .val (.int .i64 (tn a1 a2 b1 b2 c1 c2)) :: .val (.bool true) :: .val (.bool true) :: .val (.agg #[.int .i64 (a1 + e1), .int .i64 (a2 + e2)]) :: .val (.agg #[.int .i64 (b1 + e1), .int .i64 (b2 + e2)]) :: .val (.agg #[.int .i64 (c1 + e1), .int .i64 (c2 + e2)]) :: .val (.agg #[.int .i64 (d1 + e1), .int .i64 (d2 + e2)]) :: .val (.bool false) :: .val (.bool false) :: .val (.bool true) :: .val (.bool true) :: .val (.bool true) :: .val (.agg #[.int .i64 (c1 + e1), .int .i64 (c2 + e2)]) :: .val (.agg #[.int .i64 (a1 + e1), .int .i64 (a2 + e2)]) :: .val (.agg #[.int .i64 (b1 + e1), .int .i64 (b2 + e2)]) :: .val (.bool false) :: .val (.agg #[.int .i64 c1, .int .i64 c2]) :: .val (.agg #[.int .i64 a1, .int .i64 a2]) :: .val (.agg #[.int .i64 b1, .int .i64 b2]) :: .val (.bool false) :: .val (.bool true) :: .val (.bool true) :: .val (.bool true) :: .val (.bool true) :: []) (by kernel_rfl) (by kernel_rfl) (Nat.le_refl _) ((by exact trivial))
              ⟨fun a w R => ld_P (R.slot 13 rfl) (R.keep ow13.drawn trivial) rfl rfl, fun a w R => ld_P (R.slot 14 rfl) (R.keep ow14.drawn trivial) rfl rfl, fun a w R => ld_P (R.slot 15 rfl) (R.keep ow15.drawn trivial) rfl rfl, fun a w R => ld_P (R.slot 16 rfl) (R.keep ow16.drawn trivial) rfl rfl, fun a w R => bsP_4 (R.val 0) (R.val 1) (R.val 2) (R.val 3), fun a w R => cl_n (enter_at Try.func11) (R.dep 4) (fun g hg => lawin4 t11_.out hg), fun a w R => notb (R.val 5), fun a w R => mv (R.val 6), fun a w R => ld_P (R.slot 13 rfl) (R.keep ow13.drawn trivial) rfl rfl, fun a w R => ld_P (R.slot 14 rfl) (R.keep ow14.drawn trivial) rfl rfl, fun a w R => ld_P (R.slot 15 rfl) (R.keep ow15.drawn trivial) rfl rfl, fun a w R => cl_ttt (enter_at Try.func13) (R.val 8) (R.val 9) (R.val 10) (Turn_is (in3_iff.2 ⟨(in4_iff.1 t11_.out).1, (in4_iff.1 t11_.out).2.1, (in4_iff.1 t11_.out).2.2.1⟩) tn_move _), fun a w R => mv (R.slot 11 rfl), fun a w R => c_eql_tt (R.val 11) (R.val 12) (Try.underlying3) (by simp), fun a w R => mv (R.val 13), fun a w R => ld_P (R.slot 13 rfl) (R.keep ow13.drawn trivial) rfl rfl, fun a w R => ld_P (R.slot 14 rfl) (R.keep ow14.drawn trivial) rfl rfl, fun a w R => ld_P (R.slot 15 rfl) (R.keep ow15.drawn trivial) rfl rfl, fun a w R => ld_P (R.slot 16 rfl) (R.keep ow16.drawn trivial) rfl rfl, fun a w R => cl_tttt (enter_at Try.func15) (R.val 15) (R.val 16) (R.val 17) (R.val 18) (Meet_is ((mt_move (in4_iff.2 ⟨(in5_iff.1 t1_.out).1, (in5_iff.1 t1_.out).2.1, (in5_iff.1 t1_.out).2.2.1, (in5_iff.1 t1_.out).2.2.2.1⟩) (in4_iff.2 ⟨(in4_iff.1 t11_.out).1, (in4_iff.1 t11_.out).2.1, (in4_iff.1 t11_.out).2.2.1, (in4_iff.1 t11_.out).2.2.2⟩)).trans t2_.out) _), fun a w R => mv (R.slot 12 rfl), fun a w R => cb_eql_tt (R.val 19) (R.val 20) rfl, fun a w R => pickt (R.val 14) (R.val 21), fun a w R => mv (R.val 22), fun a w R => ld_P (R.slot 15 rfl) (R.keep ow15.drawn trivial) rfl rfl, fun a w R => ld_P (R.slot 13 rfl) (R.keep ow13.drawn trivial) rfl rfl, fun a w R => ld_P (R.slot 14 rfl) (R.keep ow14.drawn trivial) rfl rfl, fun a w R => cl_ttt (enter_at Try.func16) (R.val 24) (R.val 25) (R.val 26) (On_is ((onB_move (in3_iff.2 ⟨(in5_iff.1 t1_.out).2.2.1, (in5_iff.1 t1_.out).1, (in5_iff.1 t1_.out).2.1⟩) (in3_iff.2 ⟨(in4_iff.1 t11_.out).2.2.1, (in4_iff.1 t11_.out).1, (in4_iff.1 t11_.out).2.1⟩)).trans t12_.out) _), fun a w R => ld_P (R.slot 7 rfl) (R.keep ow7.drawn trivial) rfl rfl, fun a w R => ld_P (R.slot 5 rfl) (R.keep ow5.drawn trivial) rfl rfl, fun a w R => ld_P (R.slot 6 rfl) (R.keep ow6.drawn trivial) rfl rfl, fun a w R => cl_ttt (enter_at Try.func16) (R.val 28) (R.val 29) (R.val 30) (On_is t12_.out _), fun a w R => cb_eql_tt (R.val 27) (R.val 31) rfl, fun a w R => pickt (R.val 23) (R.val 32), fun a w R => pickn (R.val 7) (R.val 33), fun a w R => asg (R.val 34), trivial⟩ (fun act_ W7 I => ?_)
            obtain ⟨gb122, ew122, lw122, ow122⟩ := I.new 4 rfl rfl rfl
            rw [I.act [(118, .agg #[.int .i64 (a1 + e1), .int .i64 (a2 + e2)]), (119, .agg #[.int .i64 (b1 + e1), .int .i64 (b2 + e2)]), (120, .agg #[.int .i64 (c1 + e1), .int .i64 (c2 + e2)]), (121, .agg #[.int .i64 (d1 + e1), .int .i64 (d2 + e2)]), (122, .slice (some ⟨gb122, 0, none⟩) 4 4), (123, .bool true), (124, .bool false), (125, .bool false), (126, .agg #[.int .i64 (a1 + e1), .int .i64 (a2 + e2)]), (127, .agg #[.int .i64 (b1 + e1), .int .i64 (b2 + e2)]), (128, .agg #[.int .i64 (c1 + e1), .int .i64 (c2 + e2)]), (129, .int .i64 (tn a1 a2 b1 b2 c1 c2)), (130, .int .i64 (tn a1 a2 b1 b2 c1 c2)), (131, .bool true), (132, .bool true), (133, .agg #[.int .i64 (a1 + e1), .int .i64 (a2 + e2)]), (134, .agg #[.int .i64 (b1 + e1), .int .i64 (b2 + e2)]), (135, .agg #[.int .i64 (c1 + e1), .int .i64 (c2 + e2)]), (136, .agg #[.int .i64 (d1 + e1), .int .i64 (d2 + e2)]), (137, .bool false), (138, .bool false), (139, .bool true), (140, .bool true), (141, .bool true), (142, .agg #[.int .i64 (c1 + e1), .int .i64 (c2 + e2)]), (143, .agg #[.int .i64 (a1 + e1), .int .i64 (a2 + e2)]), (144, .agg #[.int .i64 (b1 + e1), .int .i64 (b2 + e2)]), (145, .bool false), (146, .agg #[.int .i64 c1, .int .i64 c2]), (147, .agg #[.int .i64 a1, .int .i64 a2]), (148, .agg #[.int .i64 b1, .int .i64 b2]), (149, .bool false), (150, .bool true), (151, .bool true), (152, .bool true), (10, .bool true)]
              ⟨I.val 0, I.val 1, I.val 2, I.val 3, ew122, I.val 5, I.val 6, I.val 7, I.val 8, I.val 9, I.val 10, I.val 11, I.val 12, I.val 13, I.val 14, I.val 15, I.val 16, I.val 17, I.val 18, I.val 19, I.val 20, I.val 21, I.val 22, I.val 23, I.val 24, I.val 25, I.val 26, I.val 27, I.val 28, I.val 29, I.val 30, I.val 31, I.val 32, I.val 33, I.val 34, I.val 35, trivial⟩ rfl]
            change W6.heap.size ≤ gb122 at lw122
            have sW7 : W6.heap.size ≤ W7.heap.size := I.below.size
            replace ow5 := I.keep ow5.drawn trivial
            replace ow6 := I.keep ow6.drawn trivial
            replace ow7 := I.keep ow7.drawn trivial
            replace ow8 := I.keep ow8.drawn trivial
            replace ow9 := I.keep ow9.drawn trivial
            replace ow22 := I.keep ow22.drawn trivial
            replace ow13 := I.keep ow13.drawn trivial
            replace ow14 := I.keep ow14.drawn trivial
            replace ow15 := I.keep ow15.drawn trivial
            replace ow16 := I.keep ow16.drawn trivial
            have hW7 : Below w.heap.size w W7 := then_ hW6.drew I.below hW6.size
            clear ew122
            clear I
            simp only [List.foldl_cons, List.foldl_nil, List.setIfInBounds_toArray, List.set_cons_zero, List.set_cons_succ]
            clear ow5 ow6 ow7 ow8 ow9 ow22 ow13 ow14 ow15 ow16 ow122
            go_wp2
            try simp only [setCell_drawn]
            refine bodyPost_ret (by first | (simp [results, Try.results3, go_sem]; done) | (simp [results, Try.results3, go_sem]; rfl)) rfl ⟨?_, hW7⟩
            rfl
        · have t11_ := Lib.hid t11
          clear t11
          go_upto_region 10 with fail
          refine region_memo (B := W6.heap.size) (L := .val (.agg #[.int .i64 (a1 + e1), .int .i64 (a2 + e2)]) :: .val (.agg #[.int .i64 (b1 + e1), .int .i64 (b2 + e2)]) :: .val (.agg #[.int .i64 (c1 + e1), .int .i64 (c2 + e2)]) :: .val (.agg #[.int .i64 (d1 + e1), .int .i64 (d2 + e2)]) :: .new 23 #[.int .i64 (a1 + e1), .int .i64 (a2 + e2), .int .i64 (b1 + e1), .int .i64 (b2 + e2), .int .i64 (c1 + e1), .int .i64 (c2 + e2), .int .i64 (d1 + e1), .int .i64 (d2 + e2)] (some (4, 4)) :: .val (.bool false) :: .val (.bool true) :: .val (.bool true) :: .skip :: .skip :: .skip :: .skip :: .skip :: .skip :: .skip :: .skip :: .skip :: .skip :: .skip :: .skip :: .skip :: .skip :: .skip :: .skip :: .skip :: .skip :: .skip :: .skip :: .skip :: .skip :: .skip :: .skip :: .skip :: .skip :: .val (.bool true) :: .val (.bool true) :: []) (by kernel_rfl) (by kernel_rfl) (Nat.le_refl _) ((by exact trivial))
            ⟨fun a w R => ld_P (R.slot 13 rfl) (R.keep ow13.drawn trivial) rfl rfl, fun a w R => ld_P (R.slot 14 rfl) (R.keep ow14.drawn trivial) rfl rfl, fun a w R => ld_P (R.slot 15 rfl) (R.keep ow15.drawn trivial) rfl rfl, fun a w R => ld_P (R.slot 16 rfl) (R.keep ow16.drawn trivial) rfl rfl, fun a w R => bsP_4 (R.val 0) (R.val 1) (R.val 2) (R.val 3), fun a w R => cl_n (enter_at Try.func11) (R.dep 4) (fun g hg => lawin4 t11_.out hg), fun a w R => notb (R.val 5), fun a w R => mv (R.val 6), fun a w R => True.intro, fun a w R => True.intro, fun a w R => True.intro, fun a w R => True.intro, fun a w R => True.intro, fun a w R => True.intro, fun a w R => True.intro, fun a w R => True.intro, fun a w R => True.intro, fun a w R => True.intro, fun a w R => True.intro, fun a w R => True.intro, fun a w R => True.intro, fun a w R => True.intro, fun a w R => True.intro, fun a w R => True.intro, fun a w R => True.intro, fun a w R => True.intro, fun a w R => True.intro, fun a w R => True.intro, fun a w R => True.intro, fun a w R => True.intro, fun a w R => True.intro, fun a w R => True.intro, fun a w R => True.intro, fun a w R => True.intro, fun a w R => picko (R.val 7) (R.goneS 33), fun a w R => asg (R.val 34), trivial⟩ (fun act_ W7 I => ?_)
          obtain ⟨gb122, ew122, lw122, ow122⟩ := I.new 4 rfl rfl rfl
          rw [I.act [(118, .agg #[.int .i64 (a1 + e1), .int .i64 (a2 + e2)]), (119, .agg #[.int .i64 (b1 + e1), .int .i64 (b2 + e2)]), (120, .agg #[.int .i64 (c1 + e1), .int .i64 (c2 + e2)]), (121, .agg #[.int .i64 (d1 + e1), .int .i64 (d2 + e2)]), (122, .slice (some ⟨gb122, 0, none⟩) 4 4), (123, .bool false), (124, .bool true), (125, .bool true), (126, undef), (127, undef), (128, undef), (129, undef), (130, undef), (131, undef), (132, undef), (133, undef), (134, undef), (135, undef), (136, undef), (137, undef), (138, undef), (139, undef), (140, undef), (141, undef), (142, undef), (143, undef), (144, undef), (145, undef), (146, undef), (147, undef), (148, undef), (149, undef), (150, undef), (151, undef), (152, .bool true), (10, .bool true)]
            ⟨I.val 0, I.val 1, I.val 2, I.val 3, ew122, I.val 5, I.val 6, I.val 7, I.gone 8, I.gone 9, I.gone 10, I.gone 11, I.gone 12, I.gone 13, I.gone 14, I.gone 15, I.gone 16, I.gone 17, I.gone 18, I.gone 19, I.gone 20, I.gone 21, I.gone 22, I.gone 23, I.gone 24, I.gone 25, I.gone 26, I.gone 27, I.gone 28, I.gone 29, I.gone 30, I.gone 31, I.gone 32, I.gone 33, I.val 34, I.val 35, trivial⟩ rfl]
          change W6.heap.size ≤ gb122 at lw122
          have sW7 : W6.heap.size ≤ W7.heap.size := I.below.size
          replace ow5 := I.keep ow5.drawn trivial
          replace ow6 := I.keep ow6.drawn trivial
          replace ow7 := I.keep ow7.drawn trivial
          replace ow8 := I.keep ow8.drawn trivial
          replace ow9 := I.keep ow9.drawn trivial
          replace ow22 := I.keep ow22.drawn trivial
          replace ow13 := I.keep ow13.drawn trivial
          replace ow14 := I.keep ow14.drawn trivial
          replace ow15 := I.keep ow15.drawn trivial
          replace ow16 := I.keep ow16.drawn trivial
          have hW7 : Below w.heap.size w W7 := then_ hW6.drew I.below hW6.size
          clear ew122
          clear I
          simp only [List.foldl_cons, List.foldl_nil, List.setIfInBounds_toArray, List.set_cons_zero, List.set_cons_succ]
          clear ow5 ow6 ow7 ow8 ow9 ow22 ow13 ow14 ow15 ow16 ow122
          go_wp2
          try simp only [setCell_drawn]
          refine bodyPost_ret (by first | (simp [results, Try.results3, go_sem]; done) | (simp [results, Try.results3, go_sem]; rfl)) rfl ⟨?_, hW7⟩
          rfl
  · have t1_ := Lib.hid t1
    clear t1
    go_upto_region 1 with fail
    refine region_memo_f (B := W0.heap.size) (L := .val (.agg #[.int .i64 a1, .int .i64 a2]) :: .val (.agg #[.int .i64 b1, .int .i64 b2]) :: .val (.agg #[.int .i64 c1, .int .i64 c2]) :: .val (.agg #[.int .i64 d1, .int .i64 d2]) :: .val (.agg #[.int .i64 e1, .int .i64 e2]) :: .new 23 #[.int .i64 a1, .int .i64 a2, .int .i64 b1, .int .i64 b2, .int .i64 c1, .int .i64 c2, .int .i64 d1, .int .i64 d2, .int .i64 e1, .int .i64 e2] (some (5, 5)) :: .val (.bool false) :: .val (.bool true) :: []) (by kernel_rfl) (Nat.le_refl _) ((by exact trivial))
      ⟨fun a w R => ld_P (R.slot 5 rfl) (R.keep ow5 trivial) rfl rfl, fun a w R => ld_P (R.slot 6 rfl) (R.keep ow6 trivial) rfl rfl, fun a w R => ld_P (R.slot 7 rfl) (R.keep ow7 trivial) rfl rfl, fun a w R => ld_P (R.slot 8 rfl) (R.keep ow8 trivial) rfl rfl, fun a w R => ld_P (R.slot 9 rfl) (R.keep ow9 trivial) rfl rfl, fun a w R => bsP_5 (R.val 0) (R.val 1) (R.val 2) (R.val 3) (R.val 4), fun a w R => cl_n (enter_at Try.func11) (R.dep 5) (fun g hg => lawin5 t1_.out hg), fun a w R => notb (R.val 6), trivial⟩ (fun act_ W1 I => ?_)
    obtain ⟨gb22, ew22, lw22, ow22⟩ := I.new 5 rfl rfl rfl
    rw [I.act [(17, .agg #[.int .i64 a1, .int .i64 a2]), (18, .agg #[.int .i64 b1, .int .i64 b2]), (19, .agg #[.int .i64 c1, .int .i64 c2]), (20, .agg #[.int .i64 d1, .int .i64 d2]), (21, .agg #[.int .i64 e1, .int .i64 e2]), (22, .slice (some ⟨gb22, 0, none⟩) 5 5), (23, .bool false), (24, .bool true)]
      ⟨I.val 0, I.val 1, I.val 2, I.val 3, I.val 4, ew22, I.val 6, I.val 7, trivial⟩ rfl]
    change W0.heap.size ≤ gb22 at lw22
    have sW1 : W0.heap.size ≤ W1.heap.size := I.below.size
    replace ow5 := I.keep ow5 trivial
    replace ow6 := I.keep ow6 trivial
    replace ow7 := I.keep ow7 trivial
    replace ow8 := I.keep ow8 trivial
    replace ow9 := I.keep ow9 trivial
    have hW1 : Below w.heap.size w W1 := then_ hW0 I.below hW0.size
    clear ew22
    clear I
    simp only [List.foldl_cons, List.foldl_nil, List.setIfInBounds_toArray, List.set_cons_zero, List.set_cons_succ]
    go_upto_region 2 with fail
    refine region_memo_f (B := W1.heap.size) (L := .val (.bool true) :: .val (.bool true) :: []) (by kernel_rfl) (Nat.le_refl _) ((by exact trivial))
      ⟨fun a w R => cl_0 (enter_at Try.func12)  (awake_any _), fun a w R => asg (R.val 0), trivial⟩ (fun act_ W2 I => ?_)
    rw [I.act [(25, .bool true), (10, .bool true)]
      ⟨I.val 0, I.val 1, trivial⟩ rfl]
    have sW2 : W1.heap.size ≤ W2.heap.size := I.below.size
    replace ow5 := I.keep ow5 trivial
    replace ow6 := I.keep ow6 trivial
    replace ow7 := I.keep ow7 trivial
    replace ow8 := I.keep ow8 trivial
    replace ow9 := I.keep ow9 trivial
    replace ow22 := I.keep ow22 trivial
    have hW2 : Below w.heap.size w W2 := then_ hW1 I.below hW1.size
    clear I
    simp only [List.foldl_cons, List.foldl_nil, List.setIfInBounds_toArray, List.set_cons_zero, List.set_cons_succ]
    clear ow5 ow6 ow7 ow8 ow9 ow22
    go_wp2
    try simp only [setCell_drawn]
    refine bodyPost_ret (by first | (simp [results, Try.results3, go_sem]; done) | (simp [results, Try.results3, go_sem]; rfl)) rfl ⟨?_, hW2⟩
    rfl

set_option maxRecDepth 100000 in
theorem lifted (os : Os) (started : os.Started) (H : Type) (enc : TypeId × Value → H) :
    ReturnsInHanded {} Try.checked os 3 .any (Rows.geomMirrorsSpec.pre6 enc Try.prog Try.f3 Rows.geomMirrorsRow.domain false) (Rows.geomMirrorsSpec.post enc Try.prog Try.f3 false true false false) := by
  refine returnsInHanded_of_change (C := Try.checked) own started (by kernel_rfl) Try.func3
    (ChangeSpec.witness6 (enc := enc) (C := Try.checked) false ⟨#[], #[.agg #[.int .i64 0, .int .i64 0], .agg #[.int .i64 0, .int .i64 0], .agg #[.int .i64 0, .int .i64 0], .agg #[.int .i64 0, .int .i64 0], .agg #[.int .i64 0, .int .i64 0]], []⟩ 8 (by kernel_rfl) (by kernel_rfl) (by kernel_rfl) (by kernel_rfl)) ?_
  intro W base args ds gs before hval0 hW hcnd _
  have hval : ∀ (j : Nat) t v, Try.f3.params[j]? = some t → args[j]? = some v → Value.okWide Try.prog W .any base t v := hval0
  have hW' := hW
  obtain ⟨p, q, hA0, hV, rfl, hfz, hnd⟩ := hW
  have hA : DataW.TrodAll enc Try.prog W 0 (fun _ => true) true Try.f3.params.toList args.toList ds p := hA0
  rw [Try.params3] at hA hval
  obtain ⟨v0, vs0, d0, ds0, p0, q0, hargs, rfl, rfl, h0, r0⟩ := trodAll_cons hA
  obtain ⟨v1, vs1, d1, ds1, p1, q1, rfl, rfl, rfl, h1, r1⟩ := trodAll_cons r0
  obtain ⟨v2, vs2, d2, ds2, p2, q2, rfl, rfl, rfl, h2, r2⟩ := trodAll_cons r1
  obtain ⟨v3, vs3, d3, ds3, p3, q3, rfl, rfl, rfl, h3, r3⟩ := trodAll_cons r2
  obtain ⟨v4, vs4, d4, ds4, p4, q4, rfl, rfl, rfl, h4, r4⟩ := trodAll_cons r3
  obtain ⟨rfl, rfl, rfl⟩ := trodAll_nil r4
  obtain rfl : args = #[v0, v1, v2, v3, v4] := by cases args; simp_all
  obtain ⟨rfl, rfl⟩ := trodVars_none hV
  obtain ⟨a1, a2, rfl, rfl, fa1, fa2⟩ := open_pt (hval 0 23 v0 rfl rfl) h0
  obtain ⟨b1, b2, rfl, rfl, fb1, fb2⟩ := open_pt (hval 1 23 v1 rfl rfl) h1
  obtain ⟨c1, c2, rfl, rfl, fc1, fc2⟩ := open_pt (hval 2 23 v2 rfl rfl) h2
  obtain ⟨d1, d2, rfl, rfl, fd1, fd2⟩ := open_pt (hval 3 23 v3 rfl rfl) h3
  obtain ⟨e1, e2, rfl, rfl, fe1, fe2⟩ := open_pt (hval 4 23 v4 rfl rfl) h4
  clear hA0 hval0
  refine (walk a1 a2 b1 b2 c1 c2 d1 d2 e1 e2 W fa1 fa2 fb1 fb2 fc1 fc2 fd1 fd2 fe1 fe2).mono fun e W' ⟨he, bel⟩ => ?_
  subst he
  exact ⟨_, rfl, _, _, _, [], _, [], hW', trodAll_mk1 (shut_bool Try.underlying4 _), (trodAll_cons_mk (Below.trod laidOut (by kernel_rfl) (of_decide_eq_true (by kernel_rfl)) h0 bel (fun x hx => by cases hx)) (trodAll_cons_mk (Below.trod laidOut (by kernel_rfl) (of_decide_eq_true (by kernel_rfl)) h1 bel (fun x hx => by cases hx)) (trodAll_cons_mk (Below.trod laidOut (by kernel_rfl) (of_decide_eq_true (by kernel_rfl)) h2 bel (fun x hx => by cases hx)) (trodAll_cons_mk (Below.trod laidOut (by kernel_rfl) (of_decide_eq_true (by kernel_rfl)) h3 bel (fun x hx => by cases hx)) (trodAll_cons_mk (Below.trod laidOut (by kernel_rfl) (of_decide_eq_true (by kernel_rfl)) h4 bel (fun x hx => by cases hx)) trodAll_mk0))))), rfl, bel.frame _, fun h => by cases h⟩

theorem over : Rows.geomMirrorsRow.holds Try.pinned (OpenSpec.ofChange Rows.geomMirrorsSpec) :=
  OpenClaim.holds_of_wide 3 Try.f3 rfl rfl rfl rfl rfl rfl rfl ⟨rfl, rfl, rfl, rfl, rfl⟩ rfl rfl rfl rfl rfl (by kernel_rfl) Try.func3 (by kernel_rfl)
    (of_decide_eq_true (by kernel_rfl)) (by unfold Func.isWrapper; first | (rw [if_pos (by decide +kernel)]; kernel_rfl) | (rw [if_neg (by decide +kernel)]; exact ⟨rfl, rfl⟩))
    (fun os started H enc _ => lifted os started H enc)

/-- THE STATEMENT -/
theorem proved : Rows.GeomMirrorsSaid := over
#print axioms proved
end Go.Proofs.Ytlifghecgpibfaa.geomMirrors
