/- GeomRounds: directions stand in one order, as seen from any point; for any four points. -/
import Derived.Test.YtlifghecgpibfaaRows
import Derived.Test.YtlifghecgpibfaaBase
import Derived.Test.YtlifghecgpibfaaGeoH
import Derived.Test.YtlifghecgpibfaaPts
import Derived.Test.YtlifghecgpibfaaGeoGt
import Derived.WalkKit
import Derived.ProofKit
import Derived.OpenShut
import Derived.ShutString
import Derived.ChangeOld
import Derived.Below
import Derived.SliceStrings
namespace Go.Proofs.Ytlifghecgpibfaa.geomRounds
open Go.ChangeShapes Go.WideShapes Go.ChangeAt Go.RowKit
open Go.ChangeMaps (open_string shut_string)
set_option linter.unusedVariables false

set_option linter.unusedSimpArgs false

theorem own : ownKnob Try.prog.godebug = none := by kernel_rfl
theorem laidOut : laidOutB Try.prog = true := by kernel_rfl

set_option maxHeartbeats 16000000 in
set_option maxRecDepth 20000 in
theorem walk (o1 o2 : Int) (a1 a2 : Int) (b1 b2 : Int) (c1 c2 : Int) (w : World) (fo1 : (Lit.int .i64 o1).wf = true) (fo2 : (Lit.int .i64 o2).wf = true) (fa1 : (Lit.int .i64 a1).wf = true) (fa2 : (Lit.int .i64 a2).wf = true) (fb1 : (Lit.int .i64 b1).wf = true) (fb2 : (Lit.int .i64 b2).wf = true) (fc1 : (Lit.int .i64 c1).wf = true) (fc2 : (Lit.int .i64 c2).wf = true) :
    Calls Try.prog 4 #[.agg #[.int .i64 o1, .int .i64 o2], .agg #[.int .i64 a1, .int .i64 a2], .agg #[.int .i64 b1, .int .i64 b2], .agg #[.int .i64 c1, .int .i64 c2]] w fun e w' => e = .returned (.bool true) ∧ Below w.heap.size w w' := by
  have HN : Hid (((rdV o1 o2 a1 a2 b1 b2) == (-(-(rdV o1 o2 a1 a2 b1 b2)))) = true) := Lib.hid (by simp)
  have HA : Hid (decide ((rdV o1 o2 a1 a2 b1 b2) < (-1)) = false) := Lib.hid (by have := rd_range o1 o2 a1 a2 b1 b2; simp; omega)
  have HB : Hid (decide (1 < (rdV o1 o2 a1 a2 b1 b2)) = false) := Lib.hid (by have := rd_range o1 o2 a1 a2 b1 b2; simp; omega)
  go_enter Try.func4, Try.ntmps4
  go_upto_region 1 with fail
  go_name_world W0 hW0e
  have ow4 : Own W0 w.heap.size 23 #[.int .i64 o1, .int .i64 o2] := hW0e ▸ (by repeat' (first | (with_reducible assumption) | (with_reducible refine Own.drawnN ?_ _) | (with_reducible refine Own.drawn ?_) | (with_reducible refine Own.made_at ?_; first | rfl | (simp; done) | omega | (simp; omega)) | (with_reducible refine Own.more ?_ _) | (with_reducible refine Own.apart ?_ ?_ _ _; rotate_left; first | omega | (simp; done) | (simp; omega)) | (refine Own.put ?_ _ _)))
  have ow5 : Own W0 (w.heap.size + 1) 23 #[.int .i64 a1, .int .i64 a2] := hW0e ▸ (by repeat' (first | (with_reducible assumption) | (with_reducible refine Own.drawnN ?_ _) | (with_reducible refine Own.drawn ?_) | (with_reducible refine Own.made_at ?_; first | rfl | (simp; done) | omega | (simp; omega)) | (with_reducible refine Own.more ?_ _) | (with_reducible refine Own.apart ?_ ?_ _ _; rotate_left; first | omega | (simp; done) | (simp; omega)) | (refine Own.put ?_ _ _)))
  have ow6 : Own W0 (w.heap.size + 1 + 1) 23 #[.int .i64 b1, .int .i64 b2] := hW0e ▸ (by repeat' (first | (with_reducible assumption) | (with_reducible refine Own.drawnN ?_ _) | (with_reducible refine Own.drawn ?_) | (with_reducible refine Own.made_at ?_; first | rfl | (simp; done) | omega | (simp; omega)) | (with_reducible refine Own.more ?_ _) | (with_reducible refine Own.apart ?_ ?_ _ _; rotate_left; first | omega | (simp; done) | (simp; omega)) | (refine Own.put ?_ _ _)))
  have ow7 : Own W0 (w.heap.size + 1 + 1 + 1) 23 #[.int .i64 c1, .int .i64 c2] := hW0e ▸ (by repeat' (first | (with_reducible assumption) | (with_reducible refine Own.drawnN ?_ _) | (with_reducible refine Own.drawn ?_) | (with_reducible refine Own.made_at ?_; first | rfl | (simp; done) | omega | (simp; omega)) | (with_reducible refine Own.more ?_ _) | (with_reducible refine Own.apart ?_ ?_ _ _; rotate_left; first | omega | (simp; done) | (simp; omega)) | (refine Own.put ?_ _ _)))
  have hW0 : Below w.heap.size w W0 := hW0e ▸ (by repeat' (first | (with_reducible exact Below.refl _ _) | (with_reducible assumption) | (with_reducible refine below_drewN ?_ _) | (with_reducible refine Below.drew ?_) | (with_reducible refine Below.alloc ?_ ?_ _) | (with_reducible refine Below.setCell ?_ ?_ _) | (with_reducible refine then_ ?_ (by with_reducible assumption) ?_) | (with_reducible exact Nat.le_refl _) | (with_reducible exact Nat.le_succ _) | (with_reducible exact Nat.le_succ_of_le (by with_reducible assumption)) | omega | (simp; done) | (simp; omega) | (exact Nat.le_succ _) | (exact Nat.le_succ_of_le (by with_reducible assumption))))
  clear hW0e
  have z0 := ow7.in_
  go_upto_region 1 with fail
  refine region_memo_f (B := W0.heap.size) (L := .val (.agg #[.int .i64 o1, .int .i64 o2]) :: .val (.agg #[.int .i64 a1, .int .i64 a2]) :: .val (.agg #[.int .i64 b1, .int .i64 b2]) :: .val (.int .i64 (rdV o1 o2 a1 a2 b1 b2)) :: .val (.int .i64 (rdV o1 o2 a1 a2 b1 b2)) :: []) (by kernel_rfl) (Nat.le_refl _) ((by exact trivial))
    ⟨fun a w R => ld_P (R.slot 4 rfl) (R.keep ow4 trivial) rfl rfl, fun a w R => ld_P (R.slot 5 rfl) (R.keep ow5 trivial) rfl rfl, fun a w R => ld_P (R.slot 6 rfl) (R.keep ow6 trivial) rfl rfl, fun a w R => cl_ttt (enter_at Try.func18) (R.val 0) (R.val 1) (R.val 2) (Around_any _), fun a w R => asg (R.val 3), trivial⟩ (fun act_ W1 I => ?_)
  rw [I.act [(10, .agg #[.int .i64 o1, .int .i64 o2]), (11, .agg #[.int .i64 a1, .int .i64 a2]), (12, .agg #[.int .i64 b1, .int .i64 b2]), (13, .int .i64 (rdV o1 o2 a1 a2 b1 b2)), (9, .int .i64 (rdV o1 o2 a1 a2 b1 b2))]
    ⟨I.val 0, I.val 1, I.val 2, I.val 3, I.val 4, trivial⟩ rfl]
  have sW1 : W0.heap.size ≤ W1.heap.size := I.below.size
  replace ow4 := I.keep ow4 trivial
  replace ow5 := I.keep ow5 trivial
  replace ow6 := I.keep ow6 trivial
  replace ow7 := I.keep ow7 trivial
  have hW1 : Below w.heap.size w W1 := then_ hW0 I.below hW0.size
  clear I
  simp only [List.foldl_cons, List.foldl_nil, List.setIfInBounds_toArray, List.set_cons_zero, List.set_cons_succ]
  go_upto_region 2 with fail
  refine region_memo_f (B := W1.heap.size) (L := .val (.bool true) :: .val (.bool false) :: .val (.bool false) :: .val (.int .i64 (rdV o1 o2 a1 a2 b1 b2)) :: .val (.agg #[.int .i64 o1, .int .i64 o2]) :: .val (.agg #[.int .i64 b1, .int .i64 b2]) :: .val (.agg #[.int .i64 a1, .int .i64 a2]) :: .val (.int .i64 (-(rdV o1 o2 a1 a2 b1 b2))) :: .val (.int .i64 (-(-(rdV o1 o2 a1 a2 b1 b2)))) :: .val (.bool false) :: .val (.bool false) :: .val (.bool false) :: .val (.int .i64 (rdV o1 o2 a1 a2 b1 b2)) :: .val (.bool false) :: .val (.bool false) :: .val (.bool false) :: .val (.int .i64 (rdV o1 o2 a1 a2 b1 b2)) :: .val (.bool false) :: .val (.bool false) :: []) (by kernel_rfl) (Nat.le_refl _) ((by exact trivial))
    ⟨fun a w R => cl_0 (enter_at Try.func12)  (awake_any _), fun a w R => notb (R.val 0), fun a w R => mv (R.val 1), fun a w R => mv (R.slot 9 rfl), fun a w R => ld_P (R.slot 4 rfl) (R.keep ow4 trivial) rfl rfl, fun a w R => ld_P (R.slot 6 rfl) (R.keep ow6 trivial) rfl rfl, fun a w R => ld_P (R.slot 5 rfl) (R.keep ow5 trivial) rfl rfl, fun a w R => cl_ttt (enter_at Try.func18) (R.val 4) (R.val 5) (R.val 6) (Around_is (rd_anti _ _ _ _ _ _) _), fun a w R => negi (R.val 7) (by first | rfl | exact rd_negw2 _ _ _ _ _ _ | exact rd_negw _ _ _ _ _ _), fun a w R => c_neq_tt (R.val 3) (R.val 8) (Try.underlying3) (by rw [HN.out]; rfl), fun a w R => pickn (R.val 2) (R.val 9), fun a w R => mv (R.val 10), fun a w R => mv (R.slot 9 rfl), fun a w R => c_lss_tk (R.val 12) (Try.underlying3) HA.out, fun a w R => pickn (R.val 11) (R.val 13), fun a w R => mv (R.val 14), fun a w R => mv (R.slot 9 rfl), fun a w R => c_gtr_tk (R.val 16) (Try.underlying3) HB.out, fun a w R => pickn (R.val 15) (R.val 17), trivial⟩ (fun act_ W2 I => ?_)
  rw [I.act [(14, .bool true), (15, .bool false), (16, .bool false), (17, .int .i64 (rdV o1 o2 a1 a2 b1 b2)), (18, .agg #[.int .i64 o1, .int .i64 o2]), (19, .agg #[.int .i64 b1, .int .i64 b2]), (20, .agg #[.int .i64 a1, .int .i64 a2]), (21, .int .i64 (-(rdV o1 o2 a1 a2 b1 b2))), (22, .int .i64 (-(-(rdV o1 o2 a1 a2 b1 b2)))), (23, .bool false), (24, .bool false), (25, .bool false), (26, .int .i64 (rdV o1 o2 a1 a2 b1 b2)), (27, .bool false), (28, .bool false), (29, .bool false), (30, .int .i64 (rdV o1 o2 a1 a2 b1 b2)), (31, .bool false), (32, .bool false)]
    ⟨I.val 0, I.val 1, I.val 2, I.val 3, I.val 4, I.val 5, I.val 6, I.val 7, I.val 8, I.val 9, I.val 10, I.val 11, I.val 12, I.val 13, I.val 14, I.val 15, I.val 16, I.val 17, I.val 18, trivial⟩ rfl]
  have sW2 : W1.heap.size ≤ W2.heap.size := I.below.size
  replace ow4 := I.keep ow4 trivial
  replace ow5 := I.keep ow5 trivial
  replace ow6 := I.keep ow6 trivial
  replace ow7 := I.keep ow7 trivial
  have hW2 : Below w.heap.size w W2 := then_ hW1 I.below hW1.size
  clear I
  simp only [List.foldl_cons, List.foldl_nil, List.setIfInBounds_toArray, List.set_cons_zero, List.set_cons_succ]
  rcases Bool.eq_false_or_eq_true (in4 o1 o2 a1 a2 b1 b2 c1 c2) with t1 | t1
  · have t1_ := Lib.hid t1
    clear t1
    rcases Bool.eq_false_or_eq_true (decide (a1 = o1 ∧ a2 = o2)) with t2 | t2
    · have t2_ := Lib.hid t2
      clear t2
      go_upto_region 4 with fail
      refine region_memo_f (B := W2.heap.size) (L := .val (.agg #[.int .i64 o1, .int .i64 o2]) :: .val (.agg #[.int .i64 a1, .int .i64 a2]) :: .val (.agg #[.int .i64 b1, .int .i64 b2]) :: .val (.agg #[.int .i64 c1, .int .i64 c2]) :: .new 23 #[.int .i64 o1, .int .i64 o2, .int .i64 a1, .int .i64 a2, .int .i64 b1, .int .i64 b2, .int .i64 c1, .int .i64 c2] (some (4, 4)) :: .val (.bool true) :: .val (.bool false) :: .val (.bool false) :: .val (.agg #[.int .i64 a1, .int .i64 a2]) :: .val (.agg #[.int .i64 o1, .int .i64 o2]) :: .val (.bool true) :: .val (.bool true) :: .val (.bool true) :: .skip :: .skip :: .skip :: .val (.bool true) :: .val (.bool true) :: .skip :: .skip :: .skip :: .val (.bool true) :: []) (by kernel_rfl) (Nat.le_refl _) ((by exact trivial))
        ⟨fun a w R => ld_P (R.slot 4 rfl) (R.keep ow4 trivial) rfl rfl, fun a w R => ld_P (R.slot 5 rfl) (R.keep ow5 trivial) rfl rfl, fun a w R => ld_P (R.slot 6 rfl) (R.keep ow6 trivial) rfl rfl, fun a w R => ld_P (R.slot 7 rfl) (R.keep ow7 trivial) rfl rfl, fun a w R => bsP_4 (R.val 0) (R.val 1) (R.val 2) (R.val 3), fun a w R => cl_n (enter_at Try.func11) (R.dep 4) (fun g hg => lawin4 t1_.out hg), fun a w R => notb (R.val 5), fun a w R => mv (R.val 6), fun a w R => ld_P (R.slot 5 rfl) (R.keep ow5 trivial) rfl rfl, fun a w R => ld_P (R.slot 4 rfl) (R.keep ow4 trivial) rfl rfl, fun a w R => (e_eql_P (R.val 8) (R.val 9) ((fun w => (eq_Point _ _ _ _ w).trans (by rw [t2_.out])))), fun a w R => pickn (R.val 7) (R.val 10), fun a w R => mv (R.val 11), fun a w R => True.intro, fun a w R => True.intro, fun a w R => True.intro, fun a w R => picko (R.val 12) (R.goneS 15), fun a w R => mv (R.val 16), fun a w R => True.intro, fun a w R => True.intro, fun a w R => True.intro, fun a w R => picko (R.val 17) (R.goneS 20), trivial⟩ (fun act_ W3 I => ?_)
      obtain ⟨gb37, ew37, lw37, ow37⟩ := I.new 4 rfl rfl rfl
      rw [I.act [(33, .agg #[.int .i64 o1, .int .i64 o2]), (34, .agg #[.int .i64 a1, .int .i64 a2]), (35, .agg #[.int .i64 b1, .int .i64 b2]), (36, .agg #[.int .i64 c1, .int .i64 c2]), (37, .slice (some ⟨gb37, 0, none⟩) 4 4), (38, .bool true), (39, .bool false), (40, .bool false), (41, .agg #[.int .i64 a1, .int .i64 a2]), (42, .agg #[.int .i64 o1, .int .i64 o2]), (43, .bool true), (44, .bool true), (45, .bool true), (46, undef), (47, undef), (48, undef), (49, .bool true), (50, .bool true), (51, undef), (52, undef), (53, undef), (54, .bool true)]
        ⟨I.val 0, I.val 1, I.val 2, I.val 3, ew37, I.val 5, I.val 6, I.val 7, I.val 8, I.val 9, I.val 10, I.val 11, I.val 12, I.gone 13, I.gone 14, I.gone 15, I.val 16, I.val 17, I.gone 18, I.gone 19, I.gone 20, I.val 21, trivial⟩ rfl]
      change W2.heap.size ≤ gb37 at lw37
      have sW3 : W2.heap.size ≤ W3.heap.size := I.below.size
      replace ow4 := I.keep ow4 trivial
      replace ow5 := I.keep ow5 trivial
      replace ow6 := I.keep ow6 trivial
      replace ow7 := I.keep ow7 trivial
      have hW3 : Below w.heap.size w W3 := then_ hW2 I.below hW2.size
      clear ew37
      clear I
      simp only [List.foldl_cons, List.foldl_nil, List.setIfInBounds_toArray, List.set_cons_zero, List.set_cons_succ]
      go_upto_region 5 with fail
      refine region_memo_f (B := W3.heap.size) (L := .val (.bool true) :: []) (by kernel_rfl) (Nat.le_refl _) ((by exact trivial))
        ⟨fun a w R => asc, trivial⟩ (fun act_ W4 I => ?_)
      rw [I.act [(8, .bool true)]
        ⟨I.val 0, trivial⟩ rfl]
      have sW4 : W3.heap.size ≤ W4.heap.size := I.below.size
      replace ow4 := I.keep ow4 trivial
      replace ow5 := I.keep ow5 trivial
      replace ow6 := I.keep ow6 trivial
      replace ow7 := I.keep ow7 trivial
      replace ow37 := I.keep ow37 trivial
      have hW4 : Below w.heap.size w W4 := then_ hW3 I.below hW3.size
      clear I
      simp only [List.foldl_cons, List.foldl_nil, List.setIfInBounds_toArray, List.set_cons_zero, List.set_cons_succ]
      clear ow4 ow5 ow6 ow7 ow37
      go_wp2
      try simp only [setCell_drawn]
      refine bodyPost_ret (by first | (simp [results, Try.results4, go_sem]; done) | (simp [results, Try.results4, go_sem]; rfl)) rfl ⟨?_, hW4⟩
      rfl
    · have t2_ := Lib.hid t2
      clear t2
      rcases Bool.eq_false_or_eq_true (decide (b1 = o1 ∧ b2 = o2)) with t3 | t3
      · have t3_ := Lib.hid t3
        clear t3
        go_upto_region 4 with fail
        refine region_memo_f (B := W2.heap.size) (L := .val (.agg #[.int .i64 o1, .int .i64 o2]) :: .val (.agg #[.int .i64 a1, .int .i64 a2]) :: .val (.agg #[.int .i64 b1, .int .i64 b2]) :: .val (.agg #[.int .i64 c1, .int .i64 c2]) :: .new 23 #[.int .i64 o1, .int .i64 o2, .int .i64 a1, .int .i64 a2, .int .i64 b1, .int .i64 b2, .int .i64 c1, .int .i64 c2] (some (4, 4)) :: .val (.bool true) :: .val (.bool false) :: .val (.bool false) :: .val (.agg #[.int .i64 a1, .int .i64 a2]) :: .val (.agg #[.int .i64 o1, .int .i64 o2]) :: .val (.bool false) :: .val (.bool false) :: .val (.bool false) :: .val (.agg #[.int .i64 b1, .int .i64 b2]) :: .val (.agg #[.int .i64 o1, .int .i64 o2]) :: .val (.bool true) :: .val (.bool true) :: .val (.bool true) :: .skip :: .skip :: .skip :: .val (.bool true) :: []) (by kernel_rfl) (Nat.le_refl _) ((by exact trivial))
          ⟨fun a w R => ld_P (R.slot 4 rfl) (R.keep ow4 trivial) rfl rfl, fun a w R => ld_P (R.slot 5 rfl) (R.keep ow5 trivial) rfl rfl, fun a w R => ld_P (R.slot 6 rfl) (R.keep ow6 trivial) rfl rfl, fun a w R => ld_P (R.slot 7 rfl) (R.keep ow7 trivial) rfl rfl, fun a w R => bsP_4 (R.val 0) (R.val 1) (R.val 2) (R.val 3), fun a w R => cl_n (enter_at Try.func11) (R.dep 4) (fun g hg => lawin4 t1_.out hg), fun a w R => notb (R.val 5), fun a w R => mv (R.val 6), fun a w R => ld_P (R.slot 5 rfl) (R.keep ow5 trivial) rfl rfl, fun a w R => ld_P (R.slot 4 rfl) (R.keep ow4 trivial) rfl rfl, fun a w R => (e_eql_P (R.val 8) (R.val 9) ((fun w => (eq_Point _ _ _ _ w).trans (by rw [t2_.out])))), fun a w R => pickn (R.val 7) (R.val 10), fun a w R => mv (R.val 11), fun a w R => ld_P (R.slot 6 rfl) (R.keep ow6 trivial) rfl rfl, fun a w R => ld_P (R.slot 4 rfl) (R.keep ow4 trivial) rfl rfl, fun a w R => (e_eql_P (R.val 13) (R.val 14) ((fun w => (eq_Point _ _ _ _ w).trans (by rw [t3_.out])))), fun a w R => pickn (R.val 12) (R.val 15), fun a w R => mv (R.val 16), fun a w R => True.intro, fun a w R => True.intro, fun a w R => True.intro, fun a w R => picko (R.val 17) (R.goneS 20), trivial⟩ (fun act_ W3 I => ?_)
        obtain ⟨gb37, ew37, lw37, ow37⟩ := I.new 4 rfl rfl rfl
        rw [I.act [(33, .agg #[.int .i64 o1, .int .i64 o2]), (34, .agg #[.int .i64 a1, .int .i64 a2]), (35, .agg #[.int .i64 b1, .int .i64 b2]), (36, .agg #[.int .i64 c1, .int .i64 c2]), (37, .slice (some ⟨gb37, 0, none⟩) 4 4), (38, .bool true), (39, .bool false), (40, .bool false), (41, .agg #[.int .i64 a1, .int .i64 a2]), (42, .agg #[.int .i64 o1, .int .i64 o2]), (43, .bool false), (44, .bool false), (45, .bool false), (46, .agg #[.int .i64 b1, .int .i64 b2]), (47, .agg #[.int .i64 o1, .int .i64 o2]), (48, .bool true), (49, .bool true), (50, .bool true), (51, undef), (52, undef), (53, undef), (54, .bool true)]
          ⟨I.val 0, I.val 1, I.val 2, I.val 3, ew37, I.val 5, I.val 6, I.val 7, I.val 8, I.val 9, I.val 10, I.val 11, I.val 12, I.val 13, I.val 14, I.val 15, I.val 16, I.val 17, I.gone 18, I.gone 19, I.gone 20, I.val 21, trivial⟩ rfl]
        change W2.heap.size ≤ gb37 at lw37
        have sW3 : W2.heap.size ≤ W3.heap.size := I.below.size
        replace ow4 := I.keep ow4 trivial
        replace ow5 := I.keep ow5 trivial
        replace ow6 := I.keep ow6 trivial
        replace ow7 := I.keep ow7 trivial
        have hW3 : Below w.heap.size w W3 := then_ hW2 I.below hW2.size
        clear ew37
        clear I
        simp only [List.foldl_cons, List.foldl_nil, List.setIfInBounds_toArray, List.set_cons_zero, List.set_cons_succ]
        go_upto_region 5 with fail
        refine region_memo_f (B := W3.heap.size) (L := .val (.bool true) :: []) (by kernel_rfl) (Nat.le_refl _) ((by exact trivial))
          ⟨fun a w R => asc, trivial⟩ (fun act_ W4 I => ?_)
        rw [I.act [(8, .bool true)]
          ⟨I.val 0, trivial⟩ rfl]
        have sW4 : W3.heap.size ≤ W4.heap.size := I.below.size
        replace ow4 := I.keep ow4 trivial
        replace ow5 := I.keep ow5 trivial
        replace ow6 := I.keep ow6 trivial
        replace ow7 := I.keep ow7 trivial
        replace ow37 := I.keep ow37 trivial
        have hW4 : Below w.heap.size w W4 := then_ hW3 I.below hW3.size
        clear I
        simp only [List.foldl_cons, List.foldl_nil, List.setIfInBounds_toArray, List.set_cons_zero, List.set_cons_succ]
        clear ow4 ow5 ow6 ow7 ow37
        go_wp2
        try simp only [setCell_drawn]
        refine bodyPost_ret (by first | (simp [results, Try.results4, go_sem]; done) | (simp [results, Try.results4, go_sem]; rfl)) rfl ⟨?_, hW4⟩
        rfl
      · have t3_ := Lib.hid t3
        clear t3
        rcases Bool.eq_false_or_eq_true (decide (c1 = o1 ∧ c2 = o2)) with t4 | t4
        · have t4_ := Lib.hid t4
          clear t4
          go_upto_region 4 with fail
          refine region_memo_f (B := W2.heap.size) (L := .val (.agg #[.int .i64 o1, .int .i64 o2]) :: .val (.agg #[.int .i64 a1, .int .i64 a2]) :: .val (.agg #[.int .i64 b1, .int .i64 b2]) :: .val (.agg #[.int .i64 c1, .int .i64 c2]) :: .new 23 #[.int .i64 o1, .int .i64 o2, .int .i64 a1, .int .i64 a2, .int .i64 b1, .int .i64 b2, .int .i64 c1, .int .i64 c2] (some (4, 4)) :: .val (.bool true) :: .val (.bool false) :: .val (.bool false) :: .val (.agg #[.int .i64 a1, .int .i64 a2]) :: .val (.agg #[.int .i64 o1, .int .i64 o2]) :: .val (.bool false) :: .val (.bool false) :: .val (.bool false) :: .val (.agg #[.int .i64 b1, .int .i64 b2]) :: .val (.agg #[.int .i64 o1, .int .i64 o2]) :: .val (.bool false) :: .val (.bool false) :: .val (.bool false) :: .val (.agg #[.int .i64 c1, .int .i64 c2]) :: .val (.agg #[.int .i64 o1, .int .i64 o2]) :: .val (.bool true) :: .val (.bool true) :: []) (by kernel_rfl) (Nat.le_refl _) ((by exact trivial))
            ⟨fun a w R => ld_P (R.slot 4 rfl) (R.keep ow4 trivial) rfl rfl, fun a w R => ld_P (R.slot 5 rfl) (R.keep ow5 trivial) rfl rfl, fun a w R => ld_P (R.slot 6 rfl) (R.keep ow6 trivial) rfl rfl, fun a w R => ld_P (R.slot 7 rfl) (R.keep ow7 trivial) rfl rfl, fun a w R => bsP_4 (R.val 0) (R.val 1) (R.val 2) (R.val 3), fun a w R => cl_n (enter_at Try.func11) (R.dep 4) (fun g hg => lawin4 t1_.out hg), fun a w R => notb (R.val 5), fun a w R => mv (R.val 6), fun a w R => ld_P (R.slot 5 rfl) (R.keep ow5 trivial) rfl rfl, fun a w R => ld_P (R.slot 4 rfl) (R.keep ow4 trivial) rfl rfl, fun a w R => (e_eql_P (R.val 8) (R.val 9) ((fun w => (eq_Point _ _ _ _ w).trans (by rw [t2_.out])))), fun a w R => pickn (R.val 7) (R.val 10), fun a w R => mv (R.val 11), fun a w R => ld_P (R.slot 6 rfl) (R.keep ow6 trivial) rfl rfl, fun a w R => ld_P (R.slot 4 rfl) (R.keep ow4 trivial) rfl rfl, fun a w R => (e_eql_P (R.val 13) (R.val 14) ((fun w => (eq_Point _ _ _ _ w).trans (by rw [t3_.out])))), fun a w R => pickn (R.val 12) (R.val 15), fun a w R => mv (R.val 16), fun a w R => ld_P (R.slot 7 rfl) (R.keep ow7 trivial) rfl rfl, fun a w R => ld_P (R.slot 4 rfl) (R.keep ow4 trivial) rfl rfl, fun a w R => (e_eql_P (R.val 18) (R.val 19) ((fun w => (eq_Point _ _ _ _ w).trans (by rw [t4_.out])))), fun a w R => pickn (R.val 17) (R.val 20), trivial⟩ (fun act_ W3 I => ?_)
          obtain ⟨gb37, ew37, lw37, ow37⟩ := I.new 4 rfl rfl rfl
          rw [I.act [(33, .agg #[.int .i64 o1, .int .i64 o2]), (34, .agg #[.int .i64 a1, .int .i64 a2]), (35, .agg #[.int .i64 b1, .int .i64 b2]), (36, .agg #[.int .i64 c1, .int .i64 c2]), (37, .slice (some ⟨gb37, 0, none⟩) 4 4), (38, .bool true), (39, .bool false), (40, .bool false), (41, .agg #[.int .i64 a1, .int .i64 a2]), (42, .agg #[.int .i64 o1, .int .i64 o2]), (43, .bool false), (44, .bool false), (45, .bool false), (46, .agg #[.int .i64 b1, .int .i64 b2]), (47, .agg #[.int .i64 o1, .int .i64 o2]), (48, .bool false), (49, .bool false), (50, .bool false), (51, .agg #[.int .i64 c1, .int .i64 c2]), (52, .agg #[.int .i64 o1, .int .i64 o2]), (53, .bool true), (54, .bool true)]
            ⟨I.val 0, I.val 1, I.val 2, I.val 3, ew37, I.val 5, I.val 6, I.val 7, I.val 8, I.val 9, I.val 10, I.val 11, I.val 12, I.val 13, I.val 14, I.val 15, I.val 16, I.val 17, I.val 18, I.val 19, I.val 20, I.val 21, trivial⟩ rfl]
          change W2.heap.size ≤ gb37 at lw37
          have sW3 : W2.heap.size ≤ W3.heap.size := I.below.size
          replace ow4 := I.keep ow4 trivial
          replace ow5 := I.keep ow5 trivial
          replace ow6 := I.keep ow6 trivial
          replace ow7 := I.keep ow7 trivial
          have hW3 : Below w.heap.size w W3 := then_ hW2 I.below hW2.size
          clear ew37
          clear I
          simp only [List.foldl_cons, List.foldl_nil, List.setIfInBounds_toArray, List.set_cons_zero, List.set_cons_succ]
          go_upto_region 5 with fail
          refine region_memo_f (B := W3.heap.size) (L := .val (.bool true) :: []) (by kernel_rfl) (Nat.le_refl _) ((by exact trivial))
            ⟨fun a w R => asc, trivial⟩ (fun act_ W4 I => ?_)
          rw [I.act [(8, .bool true)]
            ⟨I.val 0, trivial⟩ rfl]
          have sW4 : W3.heap.size ≤ W4.heap.size := I.below.size
          replace ow4 := I.keep ow4 trivial
          replace ow5 := I.keep ow5 trivial
          replace ow6 := I.keep ow6 trivial
          replace ow7 := I.keep ow7 trivial
          replace ow37 := I.keep ow37 trivial
          have hW4 : Below w.heap.size w W4 := then_ hW3 I.below hW3.size
          clear I
          simp only [List.foldl_cons, List.foldl_nil, List.setIfInBounds_toArray, List.set_cons_zero, List.set_cons_succ]
          clear ow4 ow5 ow6 ow7 ow37
          go_wp2
          try simp only [setCell_drawn]
          refine bodyPost_ret (by first | (simp [results, Try.results4, go_sem]; done) | (simp [results, Try.results4, go_sem]; rfl)) rfl ⟨?_, hW4⟩
          rfl
        · have t4_ := Lib.hid t4
          clear t4
          go_upto_region 4 with fail
          refine region_memo_f (B := W2.heap.size) (L := .val (.agg #[.int .i64 o1, .int .i64 o2]) :: .val (.agg #[.int .i64 a1, .int .i64 a2]) :: .val (.agg #[.int .i64 b1, .int .i64 b2]) :: .val (.agg #[.int .i64 c1, .int .i64 c2]) :: .new 23 #[.int .i64 o1, .int .i64 o2, .int .i64 a1, .int .i64 a2, .int .i64 b1, .int .i64 b2, .int .i64 c1, .int .i64 c2] (some (4, 4)) :: .val (.bool true) :: .val (.bool false) :: .val (.bool false) :: .val (.agg #[.int .i64 a1, .int .i64 a2]) :: .val (.agg #[.int .i64 o1, .int .i64 o2]) :: .val (.bool false) :: .val (.bool false) :: .val (.bool false) :: .val (.agg #[.int .i64 b1, .int .i64 b2]) :: .val (.agg #[.int .i64 o1, .int .i64 o2]) :: .val (.bool false) :: .val (.bool false) :: .val (.bool false) :: .val (.agg #[.int .i64 c1, .int .i64 c2]) :: .val (.agg #[.int .i64 o1, .int .i64 o2]) :: .val (.bool false) :: .val (.bool false) :: []) (by kernel_rfl) (Nat.le_refl _) ((by exact trivial))
            ⟨fun a w R => ld_P (R.slot 4 rfl) (R.keep ow4 trivial) rfl rfl, fun a w R => ld_P (R.slot 5 rfl) (R.keep ow5 trivial) rfl rfl, fun a w R => ld_P (R.slot 6 rfl) (R.keep ow6 trivial) rfl rfl, fun a w R => ld_P (R.slot 7 rfl) (R.keep ow7 trivial) rfl rfl, fun a w R => bsP_4 (R.val 0) (R.val 1) (R.val 2) (R.val 3), fun a w R => cl_n (enter_at Try.func11) (R.dep 4) (fun g hg => lawin4 t1_.out hg), fun a w R => notb (R.val 5), fun a w R => mv (R.val 6), fun a w R => ld_P (R.slot 5 rfl) (R.keep ow5 trivial) rfl rfl, fun a w R => ld_P (R.slot 4 rfl) (R.keep ow4 trivial) rfl rfl, fun a w R => (e_eql_P (R.val 8) (R.val 9) ((fun w => (eq_Point _ _ _ _ w).trans (by rw [t2_.out])))), fun a w R => pickn (R.val 7) (R.val 10), fun a w R => mv (R.val 11), fun a w R => ld_P (R.slot 6 rfl) (R.keep ow6 trivial) rfl rfl, fun a w R => ld_P (R.slot 4 rfl) (R.keep ow4 trivial) rfl rfl, fun a w R => (e_eql_P (R.val 13) (R.val 14) ((fun w => (eq_Point _ _ _ _ w).trans (by rw [t3_.out])))), fun a w R => pickn (R.val 12) (R.val 15), fun a w R => mv (R.val 16), fun a w R => ld_P (R.slot 7 rfl) (R.keep ow7 trivial) rfl rfl, fun a w R => ld_P (R.slot 4 rfl) (R.keep ow4 trivial) rfl rfl, fun a w R => (e_eql_P (R.val 18) (R.val 19) ((fun w => (eq_Point _ _ _ _ w).trans (by rw [t4_.out])))), fun a w R => pickn (R.val 17) (R.val 20), trivial⟩ (fun act_ W3 I => ?_)
          obtain ⟨gb37, ew37, lw37, ow37⟩ := I.new 4 rfl rfl rfl
          rw [I.act [(33, .agg #[.int .i64 o1, .int .i64 o2]), (34, .agg #[.int .i64 a1, .int .i64 a2]), (35, .agg #[.int .i64 b1, .int .i64 b2]), (36, .agg #[.int .i64 c1, .int .i64 c2]), (37, .slice (some ⟨gb37, 0, none⟩) 4 4), (38, .bool true), (39, .bool false), (40, .bool false), (41, .agg #[.int .i64 a1, .int .i64 a2]), (42, .agg #[.int .i64 o1, .int .i64 o2]), (43, .bool false), (44, .bool false), (45, .bool false), (46, .agg #[.int .i64 b1, .int .i64 b2]), (47, .agg #[.int .i64 o1, .int .i64 o2]), (48, .bool false), (49, .bool false), (50, .bool false), (51, .agg #[.int .i64 c1, .int .i64 c2]), (52, .agg #[.int .i64 o1, .int .i64 o2]), (53, .bool false), (54, .bool false)]
            ⟨I.val 0, I.val 1, I.val 2, I.val 3, ew37, I.val 5, I.val 6, I.val 7, I.val 8, I.val 9, I.val 10, I.val 11, I.val 12, I.val 13, I.val 14, I.val 15, I.val 16, I.val 17, I.val 18, I.val 19, I.val 20, I.val 21, trivial⟩ rfl]
          change W2.heap.size ≤ gb37 at lw37
          have sW3 : W2.heap.size ≤ W3.heap.size := I.below.size
          replace ow4 := I.keep ow4 trivial
          replace ow5 := I.keep ow5 trivial
          replace ow6 := I.keep ow6 trivial
          replace ow7 := I.keep ow7 trivial
          have hW3 : Below w.heap.size w W3 := then_ hW2 I.below hW2.size
          clear ew37
          clear I
          simp only [List.foldl_cons, List.foldl_nil, List.setIfInBounds_toArray, List.set_cons_zero, List.set_cons_succ]
          rcases Bool.eq_false_or_eq_true (((rdV o1 o2 a1 a2 b1 b2) == 0)) with t5 | t5
          · have t5_ := Lib.hid t5
            clear t5
            rcases Bool.eq_false_or_eq_true (((tn o1 o2 a1 a2 b1 b2) == 0)) with t6 | t6
            · have t6_ := Lib.hid t6
              clear t6
              go_upto_region 6 with fail
              refine region_memo_f (B := W3.heap.size) (L := .val (.int .i64 (rdV o1 o2 a1 a2 b1 b2)) :: .val (.bool true) :: .val (.bool true) :: .val (.agg #[.int .i64 o1, .int .i64 o2]) :: .val (.agg #[.int .i64 a1, .int .i64 a2]) :: .val (.agg #[.int .i64 b1, .int .i64 b2]) :: .val (.int .i64 (tn o1 o2 a1 a2 b1 b2)) :: .val (.bool false) :: .val (.bool false) :: []) (by kernel_rfl) (Nat.le_refl _) ((by exact trivial))
                ⟨fun a w R => mv (R.slot 9 rfl), fun a w R => c_eql_tk (R.val 0) (Try.underlying3) t5_.out, fun a w R => mv (R.val 1), fun a w R => ld_P (R.slot 4 rfl) (R.keep ow4 trivial) rfl rfl, fun a w R => ld_P (R.slot 5 rfl) (R.keep ow5 trivial) rfl rfl, fun a w R => ld_P (R.slot 6 rfl) (R.keep ow6 trivial) rfl rfl, fun a w R => cl_ttt (enter_at Try.func13) (R.val 3) (R.val 4) (R.val 5) (Turn_in (in3_iff.2 ⟨(in4_iff.1 t1_.out).1, (in4_iff.1 t1_.out).2.1, (in4_iff.1 t1_.out).2.2.1⟩) _), fun a w R => c_neq_tk (R.val 6) (Try.underlying3) (by rw [t6_.out]; rfl), fun a w R => pickt (R.val 2) (R.val 7), trivial⟩ (fun act_ W4 I => ?_)
              rw [I.act [(55, .int .i64 (rdV o1 o2 a1 a2 b1 b2)), (56, .bool true), (57, .bool true), (58, .agg #[.int .i64 o1, .int .i64 o2]), (59, .agg #[.int .i64 a1, .int .i64 a2]), (60, .agg #[.int .i64 b1, .int .i64 b2]), (61, .int .i64 (tn o1 o2 a1 a2 b1 b2)), (62, .bool false), (63, .bool false)]
                ⟨I.val 0, I.val 1, I.val 2, I.val 3, I.val 4, I.val 5, I.val 6, I.val 7, I.val 8, trivial⟩ rfl]
              have sW4 : W3.heap.size ≤ W4.heap.size := I.below.size
              replace ow4 := I.keep ow4 trivial
              replace ow5 := I.keep ow5 trivial
              replace ow6 := I.keep ow6 trivial
              replace ow7 := I.keep ow7 trivial
              replace ow37 := I.keep ow37 trivial
              have hW4 : Below w.heap.size w W4 := then_ hW3 I.below hW3.size
              clear I
              simp only [List.foldl_cons, List.foldl_nil, List.setIfInBounds_toArray, List.set_cons_zero, List.set_cons_succ]
              rcases Bool.eq_false_or_eq_true (decide (0 < (rdV o1 o2 a1 a2 b1 b2))) with t7 | t7
              · have t7_ := Lib.hid t7
                clear t7
                go_upto_region 8 with fail
                refine region_memo_f (B := W4.heap.size) (L := .val (.int .i64 (rdV o1 o2 a1 a2 b1 b2)) :: .val (.bool true) :: .val (.bool true) :: .skip :: .skip :: .skip :: .skip :: .skip :: .val (.bool true) :: .val (.bool true) :: .skip :: .skip :: .skip :: .skip :: .skip :: .val (.bool true) :: .val (.bool true) :: []) (by kernel_rfl) (Nat.le_refl _) ((by exact trivial))
                  ⟨fun a w R => mv (R.slot 9 rfl), fun a w R => c_gtr_tk (R.val 0) (Try.underlying3) t7_.out, fun a w R => mv (R.val 1), fun a w R => True.intro, fun a w R => True.intro, fun a w R => True.intro, fun a w R => True.intro, fun a w R => True.intro, fun a w R => picko (R.val 2) (R.goneS 7), fun a w R => mv (R.val 8), fun a w R => True.intro, fun a w R => True.intro, fun a w R => True.intro, fun a w R => True.intro, fun a w R => True.intro, fun a w R => picko (R.val 9) (R.goneS 14), fun a w R => asg (R.val 15), trivial⟩ (fun act_ W5 I => ?_)
                rw [I.act [(64, .int .i64 (rdV o1 o2 a1 a2 b1 b2)), (65, .bool true), (66, .bool true), (67, undef), (68, undef), (69, undef), (70, undef), (71, undef), (72, .bool true), (73, .bool true), (74, undef), (75, undef), (76, undef), (77, undef), (78, undef), (79, .bool true), (8, .bool true)]
                  ⟨I.val 0, I.val 1, I.val 2, I.gone 3, I.gone 4, I.gone 5, I.gone 6, I.gone 7, I.val 8, I.val 9, I.gone 10, I.gone 11, I.gone 12, I.gone 13, I.gone 14, I.val 15, I.val 16, trivial⟩ rfl]
                have sW5 : W4.heap.size ≤ W5.heap.size := I.below.size
                replace ow4 := I.keep ow4 trivial
                replace ow5 := I.keep ow5 trivial
                replace ow6 := I.keep ow6 trivial
                replace ow7 := I.keep ow7 trivial
                replace ow37 := I.keep ow37 trivial
                have hW5 : Below w.heap.size w W5 := then_ hW4 I.below hW4.size
                clear I
                simp only [List.foldl_cons, List.foldl_nil, List.setIfInBounds_toArray, List.set_cons_zero, List.set_cons_succ]
                clear ow4 ow5 ow6 ow7 ow37
                go_wp2
                try simp only [setCell_drawn]
                refine bodyPost_ret (by first | (simp [results, Try.results4, go_sem]; done) | (simp [results, Try.results4, go_sem]; rfl)) rfl ⟨?_, hW5⟩
                rfl
              · have t7_ := Lib.hid t7
                clear t7
                rcases Bool.eq_false_or_eq_true (decide (0 < (rdV o1 o2 b1 b2 c1 c2))) with t8 | t8
                · have t8_ := Lib.hid t8
                  clear t8
                  go_upto_region 8 with fail
                  refine region_memo_f (B := W4.heap.size) (L := .val (.int .i64 (rdV o1 o2 a1 a2 b1 b2)) :: .val (.bool false) :: .val (.bool false) :: .val (.agg #[.int .i64 o1, .int .i64 o2]) :: .val (.agg #[.int .i64 b1, .int .i64 b2]) :: .val (.agg #[.int .i64 c1, .int .i64 c2]) :: .val (.int .i64 (rdV o1 o2 b1 b2 c1 c2)) :: .val (.bool true) :: .val (.bool true) :: .val (.bool true) :: .skip :: .skip :: .skip :: .skip :: .skip :: .val (.bool true) :: .val (.bool true) :: []) (by kernel_rfl) (Nat.le_refl _) ((by exact trivial))
                    ⟨fun a w R => mv (R.slot 9 rfl), fun a w R => c_gtr_tk (R.val 0) (Try.underlying3) t7_.out, fun a w R => mv (R.val 1), fun a w R => ld_P (R.slot 4 rfl) (R.keep ow4 trivial) rfl rfl, fun a w R => ld_P (R.slot 6 rfl) (R.keep ow6 trivial) rfl rfl, fun a w R => ld_P (R.slot 7 rfl) (R.keep ow7 trivial) rfl rfl, fun a w R => cl_ttt (enter_at Try.func18) (R.val 3) (R.val 4) (R.val 5) (Around_any _), fun a w R => c_gtr_tk (R.val 6) (Try.underlying3) t8_.out, fun a w R => pickn (R.val 2) (R.val 7), fun a w R => mv (R.val 8), fun a w R => True.intro, fun a w R => True.intro, fun a w R => True.intro, fun a w R => True.intro, fun a w R => True.intro, fun a w R => picko (R.val 9) (R.goneS 14), fun a w R => asg (R.val 15), trivial⟩ (fun act_ W5 I => ?_)
                  rw [I.act [(64, .int .i64 (rdV o1 o2 a1 a2 b1 b2)), (65, .bool false), (66, .bool false), (67, .agg #[.int .i64 o1, .int .i64 o2]), (68, .agg #[.int .i64 b1, .int .i64 b2]), (69, .agg #[.int .i64 c1, .int .i64 c2]), (70, .int .i64 (rdV o1 o2 b1 b2 c1 c2)), (71, .bool true), (72, .bool true), (73, .bool true), (74, undef), (75, undef), (76, undef), (77, undef), (78, undef), (79, .bool true), (8, .bool true)]
                    ⟨I.val 0, I.val 1, I.val 2, I.val 3, I.val 4, I.val 5, I.val 6, I.val 7, I.val 8, I.val 9, I.gone 10, I.gone 11, I.gone 12, I.gone 13, I.gone 14, I.val 15, I.val 16, trivial⟩ rfl]
                  have sW5 : W4.heap.size ≤ W5.heap.size := I.below.size
                  replace ow4 := I.keep ow4 trivial
                  replace ow5 := I.keep ow5 trivial
                  replace ow6 := I.keep ow6 trivial
                  replace ow7 := I.keep ow7 trivial
                  replace ow37 := I.keep ow37 trivial
                  have hW5 : Below w.heap.size w W5 := then_ hW4 I.below hW4.size
                  clear I
                  simp only [List.foldl_cons, List.foldl_nil, List.setIfInBounds_toArray, List.set_cons_zero, List.set_cons_succ]
                  clear ow4 ow5 ow6 ow7 ow37
                  go_wp2
                  try simp only [setCell_drawn]
                  refine bodyPost_ret (by first | (simp [results, Try.results4, go_sem]; done) | (simp [results, Try.results4, go_sem]; rfl)) rfl ⟨?_, hW5⟩
                  rfl
                · have t8_ := Lib.hid t8
                  clear t8
                  rcases Bool.eq_false_or_eq_true (decide ((rdV o1 o2 a1 a2 c1 c2) ≤ 0)) with t9 | t9
                  · have t9_ := Lib.hid t9
                    clear t9
                    go_upto_region 8 with fail
                    refine region_memo_f (B := W4.heap.size) (L := .val (.int .i64 (rdV o1 o2 a1 a2 b1 b2)) :: .val (.bool false) :: .val (.bool false) :: .val (.agg #[.int .i64 o1, .int .i64 o2]) :: .val (.agg #[.int .i64 b1, .int .i64 b2]) :: .val (.agg #[.int .i64 c1, .int .i64 c2]) :: .val (.int .i64 (rdV o1 o2 b1 b2 c1 c2)) :: .val (.bool false) :: .val (.bool false) :: .val (.bool false) :: .val (.agg #[.int .i64 o1, .int .i64 o2]) :: .val (.agg #[.int .i64 a1, .int .i64 a2]) :: .val (.agg #[.int .i64 c1, .int .i64 c2]) :: .val (.int .i64 (rdV o1 o2 a1 a2 c1 c2)) :: .val (.bool true) :: .val (.bool true) :: .val (.bool true) :: []) (by kernel_rfl) (Nat.le_refl _) ((by exact trivial))
                      ⟨fun a w R => mv (R.slot 9 rfl), fun a w R => c_gtr_tk (R.val 0) (Try.underlying3) t7_.out, fun a w R => mv (R.val 1), fun a w R => ld_P (R.slot 4 rfl) (R.keep ow4 trivial) rfl rfl, fun a w R => ld_P (R.slot 6 rfl) (R.keep ow6 trivial) rfl rfl, fun a w R => ld_P (R.slot 7 rfl) (R.keep ow7 trivial) rfl rfl, fun a w R => cl_ttt (enter_at Try.func18) (R.val 3) (R.val 4) (R.val 5) (Around_any _), fun a w R => c_gtr_tk (R.val 6) (Try.underlying3) t8_.out, fun a w R => pickn (R.val 2) (R.val 7), fun a w R => mv (R.val 8), fun a w R => ld_P (R.slot 4 rfl) (R.keep ow4 trivial) rfl rfl, fun a w R => ld_P (R.slot 5 rfl) (R.keep ow5 trivial) rfl rfl, fun a w R => ld_P (R.slot 7 rfl) (R.keep ow7 trivial) rfl rfl, fun a w R => cl_ttt (enter_at Try.func18) (R.val 10) (R.val 11) (R.val 12) (Around_any _), fun a w R => c_leq_tk (R.val 13) (Try.underlying3) t9_.out, fun a w R => pickn (R.val 9) (R.val 14), fun a w R => asg (R.val 15), trivial⟩ (fun act_ W5 I => ?_)
                    rw [I.act [(64, .int .i64 (rdV o1 o2 a1 a2 b1 b2)), (65, .bool false), (66, .bool false), (67, .agg #[.int .i64 o1, .int .i64 o2]), (68, .agg #[.int .i64 b1, .int .i64 b2]), (69, .agg #[.int .i64 c1, .int .i64 c2]), (70, .int .i64 (rdV o1 o2 b1 b2 c1 c2)), (71, .bool false), (72, .bool false), (73, .bool false), (74, .agg #[.int .i64 o1, .int .i64 o2]), (75, .agg #[.int .i64 a1, .int .i64 a2]), (76, .agg #[.int .i64 c1, .int .i64 c2]), (77, .int .i64 (rdV o1 o2 a1 a2 c1 c2)), (78, .bool true), (79, .bool true), (8, .bool true)]
                      ⟨I.val 0, I.val 1, I.val 2, I.val 3, I.val 4, I.val 5, I.val 6, I.val 7, I.val 8, I.val 9, I.val 10, I.val 11, I.val 12, I.val 13, I.val 14, I.val 15, I.val 16, trivial⟩ rfl]
                    have sW5 : W4.heap.size ≤ W5.heap.size := I.below.size
                    replace ow4 := I.keep ow4 trivial
                    replace ow5 := I.keep ow5 trivial
                    replace ow6 := I.keep ow6 trivial
                    replace ow7 := I.keep ow7 trivial
                    replace ow37 := I.keep ow37 trivial
                    have hW5 : Below w.heap.size w W5 := then_ hW4 I.below hW4.size
                    clear I
                    simp only [List.foldl_cons, List.foldl_nil, List.setIfInBounds_toArray, List.set_cons_zero, List.set_cons_succ]
                    clear ow4 ow5 ow6 ow7 ow37
                    go_wp2
                    try simp only [setCell_drawn]
                    refine bodyPost_ret (by first | (simp [results, Try.results4, go_sem]; done) | (simp [results, Try.results4, go_sem]; rfl)) rfl ⟨?_, hW5⟩
                    rfl
                  · have t9_ := Lib.hid t9
                    clear t9
                    go_upto_region 8 with fail
                    refine region_memo_f (B := W4.heap.size) (L := .val (.int .i64 (rdV o1 o2 a1 a2 b1 b2)) :: .val (.bool false) :: .val (.bool false) :: .val (.agg #[.int .i64 o1, .int .i64 o2]) :: .val (.agg #[.int .i64 b1, .int .i64 b2]) :: .val (.agg #[.int .i64 c1, .int .i64 c2]) :: .val (.int .i64 (rdV o1 o2 b1 b2 c1 c2)) :: .val (.bool false) :: .val (.bool false) :: .val (.bool false) :: .val (.agg #[.int .i64 o1, .int .i64 o2]) :: .val (.agg #[.int .i64 a1, .int .i64 a2]) :: .val (.agg #[.int .i64 c1, .int .i64 c2]) :: .val (.int .i64 (rdV o1 o2 a1 a2 c1 c2)) :: .val (.bool false) :: .val (.bool false) :: .val (.bool false) :: []) (by kernel_rfl) (Nat.le_refl _) ((by exact trivial))
                      ⟨fun a w R => mv (R.slot 9 rfl), fun a w R => c_gtr_tk (R.val 0) (Try.underlying3) t7_.out, fun a w R => mv (R.val 1), fun a w R => ld_P (R.slot 4 rfl) (R.keep ow4 trivial) rfl rfl, fun a w R => ld_P (R.slot 6 rfl) (R.keep ow6 trivial) rfl rfl, fun a w R => ld_P (R.slot 7 rfl) (R.keep ow7 trivial) rfl rfl, fun a w R => cl_ttt (enter_at Try.func18) (R.val 3) (R.val 4) (R.val 5) (Around_any _), fun a w R => c_gtr_tk (R.val 6) (Try.underlying3) t8_.out, fun a w R => pickn (R.val 2) (R.val 7), fun a w R => mv (R.val 8), fun a w R => ld_P (R.slot 4 rfl) (R.keep ow4 trivial) rfl rfl, fun a w R => ld_P (R.slot 5 rfl) (R.keep ow5 trivial) rfl rfl, fun a w R => ld_P (R.slot 7 rfl) (R.keep ow7 trivial) rfl rfl, fun a w R => cl_ttt (enter_at Try.func18) (R.val 10) (R.val 11) (R.val 12) (Around_any _), fun a w R => c_leq_tk (R.val 13) (Try.underlying3) t9_.out, fun a w R => pickn (R.val 9) (R.val 14), fun a w R => asg (R.val 15), trivial⟩ (fun act_ W5 I => ?_)
                    rw [I.act [(64, .int .i64 (rdV o1 o2 a1 a2 b1 b2)), (65, .bool false), (66, .bool false), (67, .agg #[.int .i64 o1, .int .i64 o2]), (68, .agg #[.int .i64 b1, .int .i64 b2]), (69, .agg #[.int .i64 c1, .int .i64 c2]), (70, .int .i64 (rdV o1 o2 b1 b2 c1 c2)), (71, .bool false), (72, .bool false), (73, .bool false), (74, .agg #[.int .i64 o1, .int .i64 o2]), (75, .agg #[.int .i64 a1, .int .i64 a2]), (76, .agg #[.int .i64 c1, .int .i64 c2]), (77, .int .i64 (rdV o1 o2 a1 a2 c1 c2)), (78, .bool false), (79, .bool false), (8, .bool false)]
                      ⟨I.val 0, I.val 1, I.val 2, I.val 3, I.val 4, I.val 5, I.val 6, I.val 7, I.val 8, I.val 9, I.val 10, I.val 11, I.val 12, I.val 13, I.val 14, I.val 15, I.val 16, trivial⟩ rfl]
                    have sW5 : W4.heap.size ≤ W5.heap.size := I.below.size
                    replace ow4 := I.keep ow4 trivial
                    replace ow5 := I.keep ow5 trivial
                    replace ow6 := I.keep ow6 trivial
                    replace ow7 := I.keep ow7 trivial
                    replace ow37 := I.keep ow37 trivial
                    have hW5 : Below w.heap.size w W5 := then_ hW4 I.below hW4.size
                    clear I
                    simp only [List.foldl_cons, List.foldl_nil, List.setIfInBounds_toArray, List.set_cons_zero, List.set_cons_succ]
                    clear ow4 ow5 ow6 ow7 ow37
                    go_wp2
                    try simp only [setCell_drawn]
                    refine bodyPost_ret (by first | (simp [results, Try.results4, go_sem]; done) | (simp [results, Try.results4, go_sem]; rfl)) rfl ⟨?_, hW5⟩
                    exfalso; have h0_ := t1_.out; have h1_ := t2_.out; have h2_ := t3_.out; have h3_ := t4_.out; have h4_ := t5_.out; have h5_ := t6_.out; have h6_ := t7_.out; have h7_ := t8_.out; have h8_ := t9_.out; simp only [beq_iff_eq, beq_eq_false_iff_ne, decide_eq_true_eq, decide_eq_false_iff_not, Ne] at *; first | exact absurd (rd_zero (by assumption) (by assumption) (by assumption) (by assumption)) (by assumption) | exact rd_tr (by assumption) (by assumption) (by assumption) (by assumption) (by assumption) (by assumption) (by assumption)
            · have t6_ := Lib.hid t6
              clear t6
              go_upto_region 6 with fail
              refine region_memo_f (B := W3.heap.size) (L := .val (.int .i64 (rdV o1 o2 a1 a2 b1 b2)) :: .val (.bool true) :: .val (.bool true) :: .val (.agg #[.int .i64 o1, .int .i64 o2]) :: .val (.agg #[.int .i64 a1, .int .i64 a2]) :: .val (.agg #[.int .i64 b1, .int .i64 b2]) :: .val (.int .i64 (tn o1 o2 a1 a2 b1 b2)) :: .val (.bool true) :: .val (.bool true) :: []) (by kernel_rfl) (Nat.le_refl _) ((by exact trivial))
                ⟨fun a w R => mv (R.slot 9 rfl), fun a w R => c_eql_tk (R.val 0) (Try.underlying3) t5_.out, fun a w R => mv (R.val 1), fun a w R => ld_P (R.slot 4 rfl) (R.keep ow4 trivial) rfl rfl, fun a w R => ld_P (R.slot 5 rfl) (R.keep ow5 trivial) rfl rfl, fun a w R => ld_P (R.slot 6 rfl) (R.keep ow6 trivial) rfl rfl, fun a w R => cl_ttt (enter_at Try.func13) (R.val 3) (R.val 4) (R.val 5) (Turn_in (in3_iff.2 ⟨(in4_iff.1 t1_.out).1, (in4_iff.1 t1_.out).2.1, (in4_iff.1 t1_.out).2.2.1⟩) _), fun a w R => c_neq_tk (R.val 6) (Try.underlying3) (by rw [t6_.out]; rfl), fun a w R => pickt (R.val 2) (R.val 7), trivial⟩ (fun act_ W4 I => ?_)
              rw [I.act [(55, .int .i64 (rdV o1 o2 a1 a2 b1 b2)), (56, .bool true), (57, .bool true), (58, .agg #[.int .i64 o1, .int .i64 o2]), (59, .agg #[.int .i64 a1, .int .i64 a2]), (60, .agg #[.int .i64 b1, .int .i64 b2]), (61, .int .i64 (tn o1 o2 a1 a2 b1 b2)), (62, .bool true), (63, .bool true)]
                ⟨I.val 0, I.val 1, I.val 2, I.val 3, I.val 4, I.val 5, I.val 6, I.val 7, I.val 8, trivial⟩ rfl]
              have sW4 : W3.heap.size ≤ W4.heap.size := I.below.size
              replace ow4 := I.keep ow4 trivial
              replace ow5 := I.keep ow5 trivial
              replace ow6 := I.keep ow6 trivial
              replace ow7 := I.keep ow7 trivial
              replace ow37 := I.keep ow37 trivial
              have hW4 : Below w.heap.size w W4 := then_ hW3 I.below hW3.size
              clear I
              simp only [List.foldl_cons, List.foldl_nil, List.setIfInBounds_toArray, List.set_cons_zero, List.set_cons_succ]
              go_upto_region 7 with fail
              refine region_memo_f (B := W4.heap.size) (L := .val (.bool false) :: []) (by kernel_rfl) (Nat.le_refl _) ((by exact trivial))
                ⟨fun a w R => asc, trivial⟩ (fun act_ W5 I => ?_)
              rw [I.act [(8, .bool false)]
                ⟨I.val 0, trivial⟩ rfl]
              have sW5 : W4.heap.size ≤ W5.heap.size := I.below.size
              replace ow4 := I.keep ow4 trivial
              replace ow5 := I.keep ow5 trivial
              replace ow6 := I.keep ow6 trivial
              replace ow7 := I.keep ow7 trivial
              replace ow37 := I.keep ow37 trivial
              have hW5 : Below w.heap.size w W5 := then_ hW4 I.below hW4.size
              clear I
              simp only [List.foldl_cons, List.foldl_nil, List.setIfInBounds_toArray, List.set_cons_zero, List.set_cons_succ]
              clear ow4 ow5 ow6 ow7 ow37
              go_wp2
              try simp only [setCell_drawn]
              refine bodyPost_ret (by first | (simp [results, Try.results4, go_sem]; done) | (simp [results, Try.results4, go_sem]; rfl)) rfl ⟨?_, hW5⟩
              exfalso; have h0_ := t1_.out; have h1_ := t2_.out; have h2_ := t3_.out; have h3_ := t4_.out; have h4_ := t5_.out; have h5_ := t6_.out; simp only [beq_iff_eq, beq_eq_false_iff_ne, decide_eq_true_eq, decide_eq_false_iff_not, Ne] at *; first | exact absurd (rd_zero (by assumption) (by assumption) (by assumption) (by assumption)) (by assumption) | exact rd_tr (by assumption) (by assumption) (by assumption) (by assumption) (by assumption) (by assumption) (by assumption)
          · have t5_ := Lib.hid t5
            clear t5
            go_upto_region 6 with fail
            refine region_memo_f (B := W3.heap.size) (L := .val (.int .i64 (rdV o1 o2 a1 a2 b1 b2)) :: .val (.bool false) :: .val (.bool false) :: .skip :: .skip :: .skip :: .skip :: .skip :: .val (.bool false) :: []) (by kernel_rfl) (Nat.le_refl _) ((by exact trivial))
              ⟨fun a w R => mv (R.slot 9 rfl), fun a w R => c_eql_tk (R.val 0) (Try.underlying3) t5_.out, fun a w R => mv (R.val 1), fun a w R => True.intro, fun a w R => True.intro, fun a w R => True.intro, fun a w R => True.intro, fun a w R => True.intro, fun a w R => pickf (R.val 2) (R.goneS 7), trivial⟩ (fun act_ W4 I => ?_)
            rw [I.act [(55, .int .i64 (rdV o1 o2 a1 a2 b1 b2)), (56, .bool false), (57, .bool false), (58, undef), (59, undef), (60, undef), (61, undef), (62, undef), (63, .bool false)]
              ⟨I.val 0, I.val 1, I.val 2, I.gone 3, I.gone 4, I.gone 5, I.gone 6, I.gone 7, I.val 8, trivial⟩ rfl]
            have sW4 : W3.heap.size ≤ W4.heap.size := I.below.size
            replace ow4 := I.keep ow4 trivial
            replace ow5 := I.keep ow5 trivial
            replace ow6 := I.keep ow6 trivial
            replace ow7 := I.keep ow7 trivial
            replace ow37 := I.keep ow37 trivial
            have hW4 : Below w.heap.size w W4 := then_ hW3 I.below hW3.size
            clear I
            simp only [List.foldl_cons, List.foldl_nil, List.setIfInBounds_toArray, List.set_cons_zero, List.set_cons_succ]
            rcases Bool.eq_false_or_eq_true (decide (0 < (rdV o1 o2 a1 a2 b1 b2))) with t10 | t10
            · have t10_ := Lib.hid t10
              clear t10
              go_upto_region 8 with fail
              refine region_memo_f (B := W4.heap.size) (L := .val (.int .i64 (rdV o1 o2 a1 a2 b1 b2)) :: .val (.bool true) :: .val (.bool true) :: .skip :: .skip :: .skip :: .skip :: .skip :: .val (.bool true) :: .val (.bool true) :: .skip :: .skip :: .skip :: .skip :: .skip :: .val (.bool true) :: .val (.bool true) :: []) (by kernel_rfl) (Nat.le_refl _) ((by exact trivial))
                ⟨fun a w R => mv (R.slot 9 rfl), fun a w R => c_gtr_tk (R.val 0) (Try.underlying3) t10_.out, fun a w R => mv (R.val 1), fun a w R => True.intro, fun a w R => True.intro, fun a w R => True.intro, fun a w R => True.intro, fun a w R => True.intro, fun a w R => picko (R.val 2) (R.goneS 7), fun a w R => mv (R.val 8), fun a w R => True.intro, fun a w R => True.intro, fun a w R => True.intro, fun a w R => True.intro, fun a w R => True.intro, fun a w R => picko (R.val 9) (R.goneS 14), fun a w R => asg (R.val 15), trivial⟩ (fun act_ W5 I => ?_)
              rw [I.act [(64, .int .i64 (rdV o1 o2 a1 a2 b1 b2)), (65, .bool true), (66, .bool true), (67, undef), (68, undef), (69, undef), (70, undef), (71, undef), (72, .bool true), (73, .bool true), (74, undef), (75, undef), (76, undef), (77, undef), (78, undef), (79, .bool true), (8, .bool true)]
                ⟨I.val 0, I.val 1, I.val 2, I.gone 3, I.gone 4, I.gone 5, I.gone 6, I.gone 7, I.val 8, I.val 9, I.gone 10, I.gone 11, I.gone 12, I.gone 13, I.gone 14, I.val 15, I.val 16, trivial⟩ rfl]
              have sW5 : W4.heap.size ≤ W5.heap.size := I.below.size
              replace ow4 := I.keep ow4 trivial
              replace ow5 := I.keep ow5 trivial
              replace ow6 := I.keep ow6 trivial
              replace ow7 := I.keep ow7 trivial
              replace ow37 := I.keep ow37 trivial
              have hW5 : Below w.heap.size w W5 := then_ hW4 I.below hW4.size
              clear I
              simp only [List.foldl_cons, List.foldl_nil, List.setIfInBounds_toArray, List.set_cons_zero, List.set_cons_succ]
              clear ow4 ow5 ow6 ow7 ow37
              go_wp2
              try simp only [setCell_drawn]
              refine bodyPost_ret (by first | (simp [results, Try.results4, go_sem]; done) | (simp [results, Try.results4, go_sem]; rfl)) rfl ⟨?_, hW5⟩
              rfl
            · have t10_ := Lib.hid t10
              clear t10
              rcases Bool.eq_false_or_eq_true (decide (0 < (rdV o1 o2 b1 b2 c1 c2))) with t11 | t11
              · have t11_ := Lib.hid t11
                clear t11
                go_upto_region 8 with fail
                refine region_memo_f (B := W4.heap.size) (L := .val (.int .i64 (rdV o1 o2 a1 a2 b1 b2)) :: .val (.bool false) :: .val (.bool false) :: .val (.agg #[.int .i64 o1, .int .i64 o2]) :: .val (.agg #[.int .i64 b1, .int .i64 b2]) :: .val (.agg #[.int .i64 c1, .int .i64 c2]) :: .val (.int .i64 (rdV o1 o2 b1 b2 c1 c2)) :: .val (.bool true) :: .val (.bool true) :: .val (.bool true) :: .skip :: .skip :: .skip :: .skip :: .skip :: .val (.bool true) :: .val (.bool true) :: []) (by kernel_rfl) (Nat.le_refl _) ((by exact trivial))
                  ⟨fun a w R => mv (R.slot 9 rfl), fun a w R => c_gtr_tk (R.val 0) (Try.underlying3) t10_.out, fun a w R => mv (R.val 1), fun a w R => ld_P (R.slot 4 rfl) (R.keep ow4 trivial) rfl rfl, fun a w R => ld_P (R.slot 6 rfl) (R.keep ow6 trivial) rfl rfl, fun a w R => ld_P (R.slot 7 rfl) (R.keep ow7 trivial) rfl rfl, fun a w R => cl_ttt (enter_at Try.func18) (R.val 3) (R.val 4) (R.val 5) (Around_any _), fun a w R => c_gtr_tk (R.val 6) (Try.underlying3) t11_.out, fun a w R => pickn (R.val 2) (R.val 7), fun a w R => mv (R.val 8), fun a w R => True.intro, fun a w R => True.intro, fun a w R => True.intro, fun a w R => True.intro, fun a w R => True.intro, fun a w R => picko (R.val 9) (R.goneS 14), fun a w R => asg (R.val 15), trivial⟩ (fun act_ W5 I => ?_)
                rw [I.act [(64, .int .i64 (rdV o1 o2 a1 a2 b1 b2)), (65, .bool false), (66, .bool false), (67, .agg #[.int .i64 o1, .int .i64 o2]), (68, .agg #[.int .i64 b1, .int .i64 b2]), (69, .agg #[.int .i64 c1, .int .i64 c2]), (70, .int .i64 (rdV o1 o2 b1 b2 c1 c2)), (71, .bool true), (72, .bool true), (73, .bool true), (74, undef), (75, undef), (76, undef), (77, undef), (78, undef), (79, .bool true), (8, .bool true)]
                  ⟨I.val 0, I.val 1, I.val 2, I.val 3, I.val 4, I.val 5, I.val 6, I.val 7, I.val 8, I.val 9, I.gone 10, I.gone 11, I.gone 12, I.gone 13, I.gone 14, I.val 15, I.val 16, trivial⟩ rfl]
                have sW5 : W4.heap.size ≤ W5.heap.size := I.below.size
                replace ow4 := I.keep ow4 trivial
                replace ow5 := I.keep ow5 trivial
                replace ow6 := I.keep ow6 trivial
                replace ow7 := I.keep ow7 trivial
                replace ow37 := I.keep ow37 trivial
                have hW5 : Below w.heap.size w W5 := then_ hW4 I.below hW4.size
                clear I
                simp only [List.foldl_cons, List.foldl_nil, List.setIfInBounds_toArray, List.set_cons_zero, List.set_cons_succ]
                clear ow4 ow5 ow6 ow7 ow37
                go_wp2
                try simp only [setCell_drawn]
                refine bodyPost_ret (by first | (simp [results, Try.results4, go_sem]; done) | (simp [results, Try.results4, go_sem]; rfl)) rfl ⟨?_, hW5⟩
                rfl
              · have t11_ := Lib.hid t11
                clear t11
                rcases Bool.eq_false_or_eq_true (decide ((rdV o1 o2 a1 a2 c1 c2) ≤ 0)) with t12 | t12
                · have t12_ := Lib.hid t12
                  clear t12
                  go_upto_region 8 with fail
                  refine region_memo_f (B := W4.heap.size) (L := .val (.int .i64 (rdV o1 o2 a1 a2 b1 b2)) :: .val (.bool false) :: .val (.bool false) :: .val (.agg #[.int .i64 o1, .int .i64 o2]) :: .val (.agg #[.int .i64 b1, .int .i64 b2]) :: .val (.agg #[.int .i64 c1, .int .i64 c2]) :: .val (.int .i64 (rdV o1 o2 b1 b2 c1 c2)) :: .val (.bool false) :: .val (.bool false) :: .val (.bool false) :: .val (.agg #[.int .i64 o1, .int .i64 o2]) :: .val (.agg #[.int .i64 a1, .int .i64 a2]) :: .val (.agg #[.int .i64 c1, .int .i64 c2]) :: .val (.int .i64 (rdV o1 o2 a1 a2 c1 c2)) :: .val (.bool true) :: .val (.bool true) :: .val (.bool true) :: []) (by kernel_rfl) (Nat.le_refl _) ((by exact trivial))
                    ⟨fun a w R => mv (R.slot 9 rfl), fun a w R => c_gtr_tk (R.val 0) (Try.underlying3) t10_.out, fun a w R => mv (R.val 1), fun a w R => ld_P (R.slot 4 rfl) (R.keep ow4 trivial) rfl rfl, fun a w R => ld_P (R.slot 6 rfl) (R.keep ow6 trivial) rfl rfl, fun a w R => ld_P (R.slot 7 rfl) (R.keep ow7 trivial) rfl rfl, fun a w R => cl_ttt (enter_at Try.func18) (R.val 3) (R.val 4) (R.val 5) (Around_any _), fun a w R => c_gtr_tk (R.val 6) (Try.underlying3) t11_.out, fun a w R => pickn (R.val 2) (R.val 7), fun a w R => mv (R.val 8), fun a w R => ld_P (R.slot 4 rfl) (R.keep ow4 trivial) rfl rfl, fun a w R => ld_P (R.slot 5 rfl) (R.keep ow5 trivial) rfl rfl, fun a w R => ld_P (R.slot 7 rfl) (R.keep ow7 trivial) rfl rfl, fun a w R => cl_ttt (enter_at Try.func18) (R.val 10) (R.val 11) (R.val 12) (Around_any _), fun a w R => c_leq_tk (R.val 13) (Try.underlying3) t12_.out, fun a w R => pickn (R.val 9) (R.val 14), fun a w R => asg (R.val 15), trivial⟩ (fun act_ W5 I => ?_)
                  rw [I.act [(64, .int .i64 (rdV o1 o2 a1 a2 b1 b2)), (65, .bool false), (66, .bool false), (67, .agg #[.int .i64 o1, .int .i64 o2]), (68, .agg #[.int .i64 b1, .int .i64 b2]), (69, .agg #[.int .i64 c1, .int .i64 c2]), (70, .int .i64 (rdV o1 o2 b1 b2 c1 c2)), (71, .bool false), (72, .bool false), (73, .bool false), (74, .agg #[.int .i64 o1, .int .i64 o2]), (75, .agg #[.int .i64 a1, .int .i64 a2]), (76, .agg #[.int .i64 c1, .int .i64 c2]), (77, .int .i64 (rdV o1 o2 a1 a2 c1 c2)), (78, .bool true), (79, .bool true), (8, .bool true)]
                    ⟨I.val 0, I.val 1, I.val 2, I.val 3, I.val 4, I.val 5, I.val 6, I.val 7, I.val 8, I.val 9, I.val 10, I.val 11, I.val 12, I.val 13, I.val 14, I.val 15, I.val 16, trivial⟩ rfl]
                  have sW5 : W4.heap.size ≤ W5.heap.size := I.below.size
                  replace ow4 := I.keep ow4 trivial
                  replace ow5 := I.keep ow5 trivial
                  replace ow6 := I.keep ow6 trivial
                  replace ow7 := I.keep ow7 trivial
                  replace ow37 := I.keep ow37 trivial
                  have hW5 : Below w.heap.size w W5 := then_ hW4 I.below hW4.size
                  clear I
                  simp only [List.foldl_cons, List.foldl_nil, List.setIfInBounds_toArray, List.set_cons_zero, List.set_cons_succ]
                  clear ow4 ow5 ow6 ow7 ow37
                  go_wp2
                  try simp only [setCell_drawn]
                  refine bodyPost_ret (by first | (simp [results, Try.results4, go_sem]; done) | (simp [results, Try.results4, go_sem]; rfl)) rfl ⟨?_, hW5⟩
                  rfl
                · have t12_ := Lib.hid t12
                  clear t12
                  go_upto_region 8 with fail
                  refine region_memo_f (B := W4.heap.size) (L := .val (.int .i64 (rdV o1 o2 a1 a2 b1 b2)) :: .val (.bool false) :: .val (.bool false) :: .val (.agg #[.int .i64 o1, .int .i64 o2]) :: .val (.agg #[.int .i64 b1, .int .i64 b2]) :: .val (.agg #[.int .i64 c1, .int .i64 c2]) :: .val (.int .i64 (rdV o1 o2 b1 b2 c1 c2)) :: .val (.bool false) :: .val (.bool false) :: .val (.bool false) :: .val (.agg #[.int .i64 o1, .int .i64 o2]) :: .val (.agg #[.int .i64 a1, .int .i64 a2]) :: .val (.agg #[.int .i64 c1, .int .i64 c2]) :: .val (.int .i64 (rdV o1 o2 a1 a2 c1 c2)) :: .val (.bool false) :: .val (.bool false) :: .val (.bool false) :: []) (by kernel_rfl) (Nat.le_refl _) ((by exact trivial))
                    ⟨fun a w R => mv (R.slot 9 rfl), fun a w R => c_gtr_tk (R.val 0) (Try.underlying3) t10_.out, fun a w R => mv (R.val 1), fun a w R => ld_P (R.slot 4 rfl) (R.keep ow4 trivial) rfl rfl, fun a w R => ld_P (R.slot 6 rfl) (R.keep ow6 trivial) rfl rfl, fun a w R => ld_P (R.slot 7 rfl) (R.keep ow7 trivial) rfl rfl, fun a w R => cl_ttt (enter_at Try.func18) (R.val 3) (R.val 4) (R.val 5) (Around_any _), fun a w R => c_gtr_tk (R.val 6) (Try.underlying3) t11_.out, fun a w R => pickn (R.val 2) (R.val 7), fun a w R => mv (R.val 8), fun a w R => ld_P (R.slot 4 rfl) (R.keep ow4 trivial) rfl rfl, fun a w R => ld_P (R.slot 5 rfl) (R.keep ow5 trivial) rfl rfl, fun a w R => ld_P (R.slot 7 rfl) (R.keep ow7 trivial) rfl rfl, fun a w R => cl_ttt (enter_at Try.func18) (R.val 10) (R.val 11) (R.val 12) (Around_any _), fun a w R => c_leq_tk (R.val 13) (Try.underlying3) t12_.out, fun a w R => pickn (R.val 9) (R.val 14), fun a w R => asg (R.val 15), trivial⟩ (fun act_ W5 I => ?_)
                  rw [I.act [(64, .int .i64 (rdV o1 o2 a1 a2 b1 b2)), (65, .bool false), (66, .bool false), (67, .agg #[.int .i64 o1, .int .i64 o2]), (68, .agg #[.int .i64 b1, .int .i64 b2]), (69, .agg #[.int .i64 c1, .int .i64 c2]), (70, .int .i64 (rdV o1 o2 b1 b2 c1 c2)), (71, .bool false), (72, .bool false), (73, .bool false), (74, .agg #[.int .i64 o1, .int .i64 o2]), (75, .agg #[.int .i64 a1, .int .i64 a2]), (76, .agg #[.int .i64 c1, .int .i64 c2]), (77, .int .i64 (rdV o1 o2 a1 a2 c1 c2)), (78, .bool false), (79, .bool false), (8, .bool false)]
                    ⟨I.val 0, I.val 1, I.val 2, I.val 3, I.val 4, I.val 5, I.val 6, I.val 7, I.val 8, I.val 9, I.val 10, I.val 11, I.val 12, I.val 13, I.val 14, I.val 15, I.val 16, trivial⟩ rfl]
                  have sW5 : W4.heap.size ≤ W5.heap.size := I.below.size
                  replace ow4 := I.keep ow4 trivial
                  replace ow5 := I.keep ow5 trivial
                  replace ow6 := I.keep ow6 trivial
                  replace ow7 := I.keep ow7 trivial
                  replace ow37 := I.keep ow37 trivial
                  have hW5 : Below w.heap.size w W5 := then_ hW4 I.below hW4.size
                  clear I
                  simp only [List.foldl_cons, List.foldl_nil, List.setIfInBounds_toArray, List.set_cons_zero, List.set_cons_succ]
                  clear ow4 ow5 ow6 ow7 ow37
                  go_wp2
                  try simp only [setCell_drawn]
                  refine bodyPost_ret (by first | (simp [results, Try.results4, go_sem]; done) | (simp [results, Try.results4, go_sem]; rfl)) rfl ⟨?_, hW5⟩
                  exfalso; have h0_ := t1_.out; have h1_ := t2_.out; have h2_ := t3_.out; have h3_ := t4_.out; have h4_ := t5_.out; have h5_ := t10_.out; have h6_ := t11_.out; have h7_ := t12_.out; simp only [beq_iff_eq, beq_eq_false_iff_ne, decide_eq_true_eq, decide_eq_false_iff_not, Ne] at *; first | exact absurd (rd_zero (by assumption) (by assumption) (by assumption) (by assumption)) (by assumption) | exact rd_tr (by assumption) (by assumption) (by assumption) (by assumption) (by assumption) (by assumption) (by assumption)
  · have t1_ := Lib.hid t1
    clear t1
    go_upto_region 4 with fail
    refine region_memo_f (B := W2.heap.size) (L := .val (.agg #[.int .i64 o1, .int .i64 o2]) :: .val (.agg #[.int .i64 a1, .int .i64 a2]) :: .val (.agg #[.int .i64 b1, .int .i64 b2]) :: .val (.agg #[.int .i64 c1, .int .i64 c2]) :: .new 23 #[.int .i64 o1, .int .i64 o2, .int .i64 a1, .int .i64 a2, .int .i64 b1, .int .i64 b2, .int .i64 c1, .int .i64 c2] (some (4, 4)) :: .val (.bool false) :: .val (.bool true) :: .val (.bool true) :: .skip :: .skip :: .skip :: .val (.bool true) :: .val (.bool true) :: .skip :: .skip :: .skip :: .val (.bool true) :: .val (.bool true) :: .skip :: .skip :: .skip :: .val (.bool true) :: []) (by kernel_rfl) (Nat.le_refl _) ((by exact trivial))
      ⟨fun a w R => ld_P (R.slot 4 rfl) (R.keep ow4 trivial) rfl rfl, fun a w R => ld_P (R.slot 5 rfl) (R.keep ow5 trivial) rfl rfl, fun a w R => ld_P (R.slot 6 rfl) (R.keep ow6 trivial) rfl rfl, fun a w R => ld_P (R.slot 7 rfl) (R.keep ow7 trivial) rfl rfl, fun a w R => bsP_4 (R.val 0) (R.val 1) (R.val 2) (R.val 3), fun a w R => cl_n (enter_at Try.func11) (R.dep 4) (fun g hg => lawin4 t1_.out hg), fun a w R => notb (R.val 5), fun a w R => mv (R.val 6), fun a w R => True.intro, fun a w R => True.intro, fun a w R => True.intro, fun a w R => picko (R.val 7) (R.goneS 10), fun a w R => mv (R.val 11), fun a w R => True.intro, fun a w R => True.intro, fun a w R => True.intro, fun a w R => picko (R.val 12) (R.goneS 15), fun a w R => mv (R.val 16), fun a w R => True.intro, fun a w R => True.intro, fun a w R => True.intro, fun a w R => picko (R.val 17) (R.goneS 20), trivial⟩ (fun act_ W3 I => ?_)
    obtain ⟨gb37, ew37, lw37, ow37⟩ := I.new 4 rfl rfl rfl
    rw [I.act [(33, .agg #[.int .i64 o1, .int .i64 o2]), (34, .agg #[.int .i64 a1, .int .i64 a2]), (35, .agg #[.int .i64 b1, .int .i64 b2]), (36, .agg #[.int .i64 c1, .int .i64 c2]), (37, .slice (some ⟨gb37, 0, none⟩) 4 4), (38, .bool false), (39, .bool true), (40, .bool true), (41, undef), (42, undef), (43, undef), (44, .bool true), (45, .bool true), (46, undef), (47, undef), (48, undef), (49, .bool true), (50, .bool true), (51, undef), (52, undef), (53, undef), (54, .bool true)]
      ⟨I.val 0, I.val 1, I.val 2, I.val 3, ew37, I.val 5, I.val 6, I.val 7, I.gone 8, I.gone 9, I.gone 10, I.val 11, I.val 12, I.gone 13, I.gone 14, I.gone 15, I.val 16, I.val 17, I.gone 18, I.gone 19, I.gone 20, I.val 21, trivial⟩ rfl]
    change W2.heap.size ≤ gb37 at lw37
    have sW3 : W2.heap.size ≤ W3.heap.size := I.below.size
    replace ow4 := I.keep ow4 trivial
    replace ow5 := I.keep ow5 trivial
    replace ow6 := I.keep ow6 trivial
    replace ow7 := I.keep ow7 trivial
    have hW3 : Below w.heap.size w W3 := then_ hW2 I.below hW2.size
    clear ew37
    clear I
    simp only [List.foldl_cons, List.foldl_nil, List.setIfInBounds_toArray, List.set_cons_zero, List.set_cons_succ]
    go_upto_region 5 with fail
    refine region_memo_f (B := W3.heap.size) (L := .val (.bool true) :: []) (by kernel_rfl) (Nat.le_refl _) ((by exact trivial))
      ⟨fun a w R => asc, trivial⟩ (fun act_ W4 I => ?_)
    rw [I.act [(8, .bool true)]
      ⟨I.val 0, trivial⟩ rfl]
    have sW4 : W3.heap.size ≤ W4.heap.size := I.below.size
    replace ow4 := I.keep ow4 trivial
    replace ow5 := I.keep ow5 trivial
    replace ow6 := I.keep ow6 trivial
    replace ow7 := I.keep ow7 trivial
    replace ow37 := I.keep ow37 trivial
    have hW4 : Below w.heap.size w W4 := then_ hW3 I.below hW3.size
    clear I
    simp only [List.foldl_cons, List.foldl_nil, List.setIfInBounds_toArray, List.set_cons_zero, List.set_cons_succ]
    clear ow4 ow5 ow6 ow7 ow37
    go_wp2
    try simp only [setCell_drawn]
    refine bodyPost_ret (by first | (simp [results, Try.results4, go_sem]; done) | (simp [results, Try.results4, go_sem]; rfl)) rfl ⟨?_, hW4⟩
    rfl

set_option maxRecDepth 100000 in
theorem lifted (os : Os) (started : os.Started) (H : Type) (enc : TypeId × Value → H) :
    ReturnsInHanded {} Try.checked os 4 .any (Rows.geomRoundsSpec.pre6 enc Try.prog Try.f4 Rows.geomRoundsRow.domain false) (Rows.geomRoundsSpec.post enc Try.prog Try.f4 false true false false) := by
  refine returnsInHanded_of_change (C := Try.checked) own started (by kernel_rfl) Try.func4
    (ChangeSpec.witness6 (enc := enc) (C := Try.checked) false ⟨#[], #[.agg #[.int .i64 0, .int .i64 0], .agg #[.int .i64 0, .int .i64 0], .agg #[.int .i64 0, .int .i64 0], .agg #[.int .i64 0, .int .i64 0]], []⟩ 8 (by kernel_rfl) (by kernel_rfl) (by kernel_rfl) (by kernel_rfl)) ?_
  intro W base args ds gs before hval0 hW hcnd _
  have hval : ∀ (j : Nat) t v, Try.f4.params[j]? = some t → args[j]? = some v → Value.okWide Try.prog W .any base t v := hval0
  have hW' := hW
  obtain ⟨p, q, hA0, hV, rfl, hfz, hnd⟩ := hW
  have hA : DataW.TrodAll enc Try.prog W 0 (fun _ => true) true Try.f4.params.toList args.toList ds p := hA0
  rw [Try.params4] at hA hval
  obtain ⟨v0, vs0, d0, ds0, p0, q0, hargs, rfl, rfl, h0, r0⟩ := trodAll_cons hA
  obtain ⟨v1, vs1, d1, ds1, p1, q1, rfl, rfl, rfl, h1, r1⟩ := trodAll_cons r0
  obtain ⟨v2, vs2, d2, ds2, p2, q2, rfl, rfl, rfl, h2, r2⟩ := trodAll_cons r1
  obtain ⟨v3, vs3, d3, ds3, p3, q3, rfl, rfl, rfl, h3, r3⟩ := trodAll_cons r2
  obtain ⟨rfl, rfl, rfl⟩ := trodAll_nil r3
  obtain rfl : args = #[v0, v1, v2, v3] := by cases args; simp_all
  obtain ⟨rfl, rfl⟩ := trodVars_none hV
  obtain ⟨o1, o2, rfl, rfl, fo1, fo2⟩ := open_pt (hval 0 23 v0 rfl rfl) h0
  obtain ⟨a1, a2, rfl, rfl, fa1, fa2⟩ := open_pt (hval 1 23 v1 rfl rfl) h1
  obtain ⟨b1, b2, rfl, rfl, fb1, fb2⟩ := open_pt (hval 2 23 v2 rfl rfl) h2
  obtain ⟨c1, c2, rfl, rfl, fc1, fc2⟩ := open_pt (hval 3 23 v3 rfl rfl) h3
  clear hA0 hval0
  refine (walk o1 o2 a1 a2 b1 b2 c1 c2 W fo1 fo2 fa1 fa2 fb1 fb2 fc1 fc2).mono fun e W' ⟨he, bel⟩ => ?_
  subst he
  exact ⟨_, rfl, _, _, _, [], _, [], hW', trodAll_mk1 (shut_bool Try.underlying4 _), (trodAll_cons_mk (Below.trod laidOut (by kernel_rfl) (of_decide_eq_true (by kernel_rfl)) h0 bel (fun x hx => by cases hx)) (trodAll_cons_mk (Below.trod laidOut (by kernel_rfl) (of_decide_eq_true (by kernel_rfl)) h1 bel (fun x hx => by cases hx)) (trodAll_cons_mk (Below.trod laidOut (by kernel_rfl) (of_decide_eq_true (by kernel_rfl)) h2 bel (fun x hx => by cases hx)) (trodAll_cons_mk (Below.trod laidOut (by kernel_rfl) (of_decide_eq_true (by kernel_rfl)) h3 bel (fun x hx => by cases hx)) trodAll_mk0)))), rfl, bel.frame _, fun h => by cases h⟩

theorem over : Rows.geomRoundsRow.holds Try.pinned (OpenSpec.ofChange Rows.geomRoundsSpec) :=
  OpenClaim.holds_of_wide 4 Try.f4 rfl rfl rfl rfl rfl rfl rfl ⟨rfl, rfl, rfl, rfl, rfl⟩ rfl rfl rfl rfl rfl (by kernel_rfl) Try.func4 (by kernel_rfl)
    (of_decide_eq_true (by kernel_rfl)) (by unfold Func.isWrapper; first | (rw [if_pos (by decide +kernel)]; kernel_rfl) | (rw [if_neg (by decide +kernel)]; exact ⟨rfl, rfl⟩))
    (fun os started H enc _ => lifted os started H enc)

/-- THE STATEMENT -/
theorem proved : Rows.GeomRoundsSaid := over
#print axioms proved
end Go.Proofs.Ytlifghecgpibfaa.geomRounds
