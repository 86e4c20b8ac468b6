/- GeomMeets: whether any two lines have a point in common that isn't an end of both is the document's; for any four points. -/
import Derived.Test.YtlifghecgpibfaaRows
import Derived.Test.YtlifghecgpibfaaBase
import Derived.Test.YtlifghecgpibfaaGeoH
import Derived.Test.YtlifghecgpibfaaPts
import Derived.Test.YtlifghecgpibfaaGeoGn
import Derived.WalkKit
import Derived.ProofKit
import Derived.OpenShut
import Derived.ShutString
import Derived.ChangeOld
import Derived.Below
import Derived.SliceStrings
namespace Go.Proofs.Ytlifghecgpibfaa.geomMeets
open Go.ChangeShapes Go.WideShapes Go.ChangeAt Go.RowKit
open Go.ChangeMaps (open_string shut_string)
set_option linter.unusedVariables false

theorem RMeet_is {a1 a2 b1 b2 c1 c2 d1 d2 : Int} {b : Bool} (ra : Rng a1 a2) (rb : Rng b1 b2) (rc : Rng c1 c2) (rd : Rng d1 d2) (h : rmB a1 a2 b1 b2 c1 c2 d1 d2 = b) (w : World) : Calls Try.prog 27 #[.agg #[.int .i64 a1, .int .i64 a2], .agg #[.int .i64 b1, .int .i64 b2], .agg #[.int .i64 c1, .int .i64 c2], .agg #[.int .i64 d1, .int .i64 d2]] w fun e w' => e = .returned (.bool b) ∧ Below w.heap.size w w' := h ▸ RMeet_in ra rb rc rd w

theorem own : ownKnob Try.prog.godebug = none := by kernel_rfl
theorem laidOut : laidOutB Try.prog = true := by kernel_rfl

set_option maxHeartbeats 16000000 in
set_option maxRecDepth 20000 in
theorem walk (a1 a2 : Int) (b1 b2 : Int) (c1 c2 : Int) (d1 d2 : Int) (w : World) (fa1 : (Lit.int .i64 a1).wf = true) (fa2 : (Lit.int .i64 a2).wf = true) (fb1 : (Lit.int .i64 b1).wf = true) (fb2 : (Lit.int .i64 b2).wf = true) (fc1 : (Lit.int .i64 c1).wf = true) (fc2 : (Lit.int .i64 c2).wf = true) (fd1 : (Lit.int .i64 d1).wf = true) (fd2 : (Lit.int .i64 d2).wf = true) :
    Calls Try.prog 8 #[.agg #[.int .i64 a1, .int .i64 a2], .agg #[.int .i64 b1, .int .i64 b2], .agg #[.int .i64 c1, .int .i64 c2], .agg #[.int .i64 d1, .int .i64 d2]] w fun e w' => e = .returned (.bool true) ∧ Below w.heap.size w w' := by
  go_enter Try.func8, Try.ntmps8
  go_upto_region 1 with fail
  go_name_world W0 hW0e
  have ow4 : Own W0 w.heap.size 23 #[.int .i64 a1, .int .i64 a2] := hW0e ▸ (by repeat' (first | (with_reducible assumption) | (with_reducible refine Own.drawnN ?_ _) | (with_reducible refine Own.drawn ?_) | (with_reducible refine Own.made_at ?_; first | rfl | (simp; done) | omega | (simp; omega)) | (with_reducible refine Own.more ?_ _) | (with_reducible refine Own.apart ?_ ?_ _ _; rotate_left; first | omega | (simp; done) | (simp; omega)) | (refine Own.put ?_ _ _)))
  have ow5 : Own W0 (w.heap.size + 1) 23 #[.int .i64 b1, .int .i64 b2] := hW0e ▸ (by repeat' (first | (with_reducible assumption) | (with_reducible refine Own.drawnN ?_ _) | (with_reducible refine Own.drawn ?_) | (with_reducible refine Own.made_at ?_; first | rfl | (simp; done) | omega | (simp; omega)) | (with_reducible refine Own.more ?_ _) | (with_reducible refine Own.apart ?_ ?_ _ _; rotate_left; first | omega | (simp; done) | (simp; omega)) | (refine Own.put ?_ _ _)))
  have ow6 : Own W0 (w.heap.size + 1 + 1) 23 #[.int .i64 c1, .int .i64 c2] := hW0e ▸ (by repeat' (first | (with_reducible assumption) | (with_reducible refine Own.drawnN ?_ _) | (with_reducible refine Own.drawn ?_) | (with_reducible refine Own.made_at ?_; first | rfl | (simp; done) | omega | (simp; omega)) | (with_reducible refine Own.more ?_ _) | (with_reducible refine Own.apart ?_ ?_ _ _; rotate_left; first | omega | (simp; done) | (simp; omega)) | (refine Own.put ?_ _ _)))
  have ow7 : Own W0 (w.heap.size + 1 + 1 + 1) 23 #[.int .i64 d1, .int .i64 d2] := hW0e ▸ (by repeat' (first | (with_reducible assumption) | (with_reducible refine Own.drawnN ?_ _) | (with_reducible refine Own.drawn ?_) | (with_reducible refine Own.made_at ?_; first | rfl | (simp; done) | omega | (simp; omega)) | (with_reducible refine Own.more ?_ _) | (with_reducible refine Own.apart ?_ ?_ _ _; rotate_left; first | omega | (simp; done) | (simp; omega)) | (refine Own.put ?_ _ _)))
  have hW0 : Below w.heap.size w W0 := hW0e ▸ (by repeat' (first | (with_reducible exact Below.refl _ _) | (with_reducible assumption) | (with_reducible refine below_drewN ?_ _) | (with_reducible refine Below.drew ?_) | (with_reducible refine Below.alloc ?_ ?_ _) | (with_reducible refine Below.setCell ?_ ?_ _) | (with_reducible refine then_ ?_ (by with_reducible assumption) ?_) | (with_reducible exact Nat.le_refl _) | (with_reducible exact Nat.le_succ _) | (with_reducible exact Nat.le_succ_of_le (by with_reducible assumption)) | omega | (simp; done) | (simp; omega) | (exact Nat.le_succ _) | (exact Nat.le_succ_of_le (by with_reducible assumption))))
  clear hW0e
  have z0 := ow7.in_
  rcases Bool.eq_false_or_eq_true (in4 a1 a2 b1 b2 c1 c2 d1 d2) with t1 | t1
  · have t1_ := Lib.hid t1
    clear t1
    rcases Bool.eq_false_or_eq_true (decide (a1 = b1 ∧ a2 = b2)) with t2 | t2
    · have t2_ := Lib.hid t2
      clear t2
      go_upto_region 1 with fail
      refine region_memo (B := W0.heap.size) (L := .val (.bool true) :: .val (.bool true) :: .val (.agg #[.int .i64 a1, .int .i64 a2]) :: .val (.agg #[.int .i64 b1, .int .i64 b2]) :: .val (.agg #[.int .i64 c1, .int .i64 c2]) :: .val (.agg #[.int .i64 d1, .int .i64 d2]) :: .val (.bool false) :: .val (.agg #[.int .i64 a1, .int .i64 a2]) :: .val (.agg #[.int .i64 b1, .int .i64 b2]) :: .val (.agg #[.int .i64 c1, .int .i64 c2]) :: .val (.agg #[.int .i64 d1, .int .i64 d2]) :: .new 23 #[.int .i64 a1, .int .i64 a2, .int .i64 b1, .int .i64 b2, .int .i64 c1, .int .i64 c2, .int .i64 d1, .int .i64 d2] (some (4, 4)) :: .val (.bool true) :: .val (.bool true) :: .val (.agg #[.int .i64 a1, .int .i64 a2]) :: .val (.agg #[.int .i64 b1, .int .i64 b2]) :: .val (.bool false) :: .val (.bool false) :: .val (.bool false) :: .skip :: .skip :: .skip :: .val (.bool false) :: .val (.bool false) :: .skip :: .skip :: .skip :: .skip :: .skip :: .val (.bool false) :: .val (.bool true) :: .val (.bool true) :: .val (.bool true) :: []) (by kernel_rfl) (by kernel_rfl) (Nat.le_refl _) ((by exact trivial))
        ⟨fun a w R => cl_0 (enter_at Try.func12)  (awake_any _), fun a w R => mv (R.val 0), fun a w R => ld_P (R.slot 4 rfl) (R.keep ow4.drawn trivial) rfl rfl, fun a w R => ld_P (R.slot 5 rfl) (R.keep ow5.drawn trivial) rfl rfl, fun a w R => ld_P (R.slot 6 rfl) (R.keep ow6.drawn trivial) rfl rfl, fun a w R => ld_P (R.slot 7 rfl) (R.keep ow7.drawn trivial) rfl rfl, fun a w R => cl_tttt (enter_at Try.func15) (R.val 2) (R.val 3) (R.val 4) (R.val 5) (Meet_is (mt_out2 t2_.out) _), fun a w R => ld_P (R.slot 4 rfl) (R.keep ow4.drawn trivial) rfl rfl, fun a w R => ld_P (R.slot 5 rfl) (R.keep ow5.drawn trivial) rfl rfl, fun a w R => ld_P (R.slot 6 rfl) (R.keep ow6.drawn trivial) rfl rfl, fun a w R => ld_P (R.slot 7 rfl) (R.keep ow7.drawn trivial) rfl rfl, fun a w R => bsP_4 (R.val 7) (R.val 8) (R.val 9) (R.val 10), fun a w R => cl_n (enter_at Try.func11) (R.dep 11) (fun g hg => lawin4 t1_.out hg), fun a w R => mv (R.val 12), fun a w R => ld_P (R.slot 4 rfl) (R.keep ow4.drawn trivial) rfl rfl, fun a w R => ld_P (R.slot 5 rfl) (R.keep ow5.drawn trivial) rfl rfl, fun a w R => (e_neq_P (R.val 14) (R.val 15) ((fun w => (eq_Point _ _ _ _ w).trans (by rw [t2_.out])))), fun a w R => pickt (R.val 13) (R.val 16), fun a w R => mv (R.val 17), fun a w R => True.intro, fun a w R => True.intro, fun a w R => True.intro, fun a w R => pickf (R.val 18) (R.goneS 21), fun a w R => mv (R.val 22), fun a w R => True.intro, fun a w R => True.intro, fun a w R => True.intro, fun a w R => True.intro, fun a w R => True.intro, fun a w R => pickf (R.val 23) (R.goneS 28), fun a w R => cb_eql_tt (R.val 6) (R.val 29) rfl, fun a w R => pickt (R.val 1) (R.val 30), fun a w R => asg (R.val 31), trivial⟩ (fun act_ W1 I => ?_)
      obtain ⟨gb20, ew20, lw20, ow20⟩ := I.new 11 rfl rfl rfl
      rw [I.act [(9, .bool true), (10, .bool true), (11, .agg #[.int .i64 a1, .int .i64 a2]), (12, .agg #[.int .i64 b1, .int .i64 b2]), (13, .agg #[.int .i64 c1, .int .i64 c2]), (14, .agg #[.int .i64 d1, .int .i64 d2]), (15, .bool false), (16, .agg #[.int .i64 a1, .int .i64 a2]), (17, .agg #[.int .i64 b1, .int .i64 b2]), (18, .agg #[.int .i64 c1, .int .i64 c2]), (19, .agg #[.int .i64 d1, .int .i64 d2]), (20, .slice (some ⟨gb20, 0, none⟩) 4 4), (21, .bool true), (22, .bool true), (23, .agg #[.int .i64 a1, .int .i64 a2]), (24, .agg #[.int .i64 b1, .int .i64 b2]), (25, .bool false), (26, .bool false), (27, .bool false), (28, undef), (29, undef), (30, undef), (31, .bool false), (32, .bool false), (33, undef), (34, undef), (35, undef), (36, undef), (37, undef), (38, .bool false), (39, .bool true), (40, .bool true), (8, .bool true)]
        ⟨I.val 0, I.val 1, I.val 2, I.val 3, I.val 4, I.val 5, I.val 6, I.val 7, I.val 8, I.val 9, I.val 10, ew20, I.val 12, I.val 13, I.val 14, I.val 15, I.val 16, I.val 17, I.val 18, I.gone 19, I.gone 20, I.gone 21, I.val 22, I.val 23, I.gone 24, I.gone 25, I.gone 26, I.gone 27, I.gone 28, I.val 29, I.val 30, I.val 31, I.val 32, trivial⟩ rfl]
      change W0.heap.size ≤ gb20 at lw20
      have sW1 : W0.heap.size ≤ W1.heap.size := I.below.size
      replace ow4 := I.keep ow4.drawn trivial
      replace ow5 := I.keep ow5.drawn trivial
      replace ow6 := I.keep ow6.drawn trivial
      replace ow7 := I.keep ow7.drawn trivial
      have hW1 : Below w.heap.size w W1 := then_ hW0.drew I.below hW0.size
      clear ew20
      clear I
      simp only [List.foldl_cons, List.foldl_nil, List.setIfInBounds_toArray, List.set_cons_zero, List.set_cons_succ]
      clear ow4 ow5 ow6 ow7 ow20
      go_wp2
      try simp only [setCell_drawn]
      refine bodyPost_ret (by first | (simp [results, Try.results8, go_sem]; done) | (simp [results, Try.results8, go_sem]; rfl)) rfl ⟨?_, hW1⟩
      rfl
    · have t2_ := Lib.hid t2
      clear t2
      rcases Bool.eq_false_or_eq_true (decide (c1 = d1 ∧ c2 = d2)) with t3 | t3
      · have t3_ := Lib.hid t3
        clear t3
        go_upto_region 1 with fail
        refine region_memo (B := W0.heap.size) (L := .val (.bool true) :: .val (.bool true) :: .val (.agg #[.int .i64 a1, .int .i64 a2]) :: .val (.agg #[.int .i64 b1, .int .i64 b2]) :: .val (.agg #[.int .i64 c1, .int .i64 c2]) :: .val (.agg #[.int .i64 d1, .int .i64 d2]) :: .val (.bool false) :: .val (.agg #[.int .i64 a1, .int .i64 a2]) :: .val (.agg #[.int .i64 b1, .int .i64 b2]) :: .val (.agg #[.int .i64 c1, .int .i64 c2]) :: .val (.agg #[.int .i64 d1, .int .i64 d2]) :: .new 23 #[.int .i64 a1, .int .i64 a2, .int .i64 b1, .int .i64 b2, .int .i64 c1, .int .i64 c2, .int .i64 d1, .int .i64 d2] (some (4, 4)) :: .val (.bool true) :: .val (.bool true) :: .val (.agg #[.int .i64 a1, .int .i64 a2]) :: .val (.agg #[.int .i64 b1, .int .i64 b2]) :: .val (.bool true) :: .val (.bool true) :: .val (.bool true) :: .val (.agg #[.int .i64 c1, .int .i64 c2]) :: .val (.agg #[.int .i64 d1, .int .i64 d2]) :: .val (.bool false) :: .val (.bool false) :: .val (.bool false) :: .skip :: .skip :: .skip :: .skip :: .skip :: .val (.bool false) :: .val (.bool true) :: .val (.bool true) :: .val (.bool true) :: []) (by kernel_rfl) (by kernel_rfl) (Nat.le_refl _) ((by exact trivial))
          ⟨fun a w R => cl_0 (enter_at Try.func12)  (awake_any _), fun a w R => mv (R.val 0), fun a w R => ld_P (R.slot 4 rfl) (R.keep ow4.drawn trivial) rfl rfl, fun a w R => ld_P (R.slot 5 rfl) (R.keep ow5.drawn trivial) rfl rfl, fun a w R => ld_P (R.slot 6 rfl) (R.keep ow6.drawn trivial) rfl rfl, fun a w R => ld_P (R.slot 7 rfl) (R.keep ow7.drawn trivial) rfl rfl, fun a w R => cl_tttt (enter_at Try.func15) (R.val 2) (R.val 3) (R.val 4) (R.val 5) (Meet_is (mt_out3 t3_.out) _), fun a w R => ld_P (R.slot 4 rfl) (R.keep ow4.drawn trivial) rfl rfl, fun a w R => ld_P (R.slot 5 rfl) (R.keep ow5.drawn trivial) rfl rfl, fun a w R => ld_P (R.slot 6 rfl) (R.keep ow6.drawn trivial) rfl rfl, fun a w R => ld_P (R.slot 7 rfl) (R.keep ow7.drawn trivial) rfl rfl, fun a w R => bsP_4 (R.val 7) (R.val 8) (R.val 9) (R.val 10), fun a w R => cl_n (enter_at Try.func11) (R.dep 11) (fun g hg => lawin4 t1_.out hg), fun a w R => mv (R.val 12), fun a w R => ld_P (R.slot 4 rfl) (R.keep ow4.drawn trivial) rfl rfl, fun a w R => ld_P (R.slot 5 rfl) (R.keep ow5.drawn trivial) rfl rfl, fun a w R => (e_neq_P (R.val 14) (R.val 15) ((fun w => (eq_Point _ _ _ _ w).trans (by rw [t2_.out])))), fun a w R => pickt (R.val 13) (R.val 16), fun a w R => mv (R.val 17), fun a w R => ld_P (R.slot 6 rfl) (R.keep ow6.drawn trivial) rfl rfl, fun a w R => ld_P (R.slot 7 rfl) (R.keep ow7.drawn trivial) rfl rfl, fun a w R => (e_neq_P (R.val 19) (R.val 20) ((fun w => (eq_Point _ _ _ _ w).trans (by rw [t3_.out])))), fun a w R => pickt (R.val 18) (R.val 21), fun a w R => mv (R.val 22), fun a w R => True.intro, fun a w R => True.intro, fun a w R => True.intro, fun a w R => True.intro, fun a w R => True.intro, fun a w R => pickf (R.val 23) (R.goneS 28), fun a w R => cb_eql_tt (R.val 6) (R.val 29) rfl, fun a w R => pickt (R.val 1) (R.val 30), fun a w R => asg (R.val 31), trivial⟩ (fun act_ W1 I => ?_)
        obtain ⟨gb20, ew20, lw20, ow20⟩ := I.new 11 rfl rfl rfl
        rw [I.act [(9, .bool true), (10, .bool true), (11, .agg #[.int .i64 a1, .int .i64 a2]), (12, .agg #[.int .i64 b1, .int .i64 b2]), (13, .agg #[.int .i64 c1, .int .i64 c2]), (14, .agg #[.int .i64 d1, .int .i64 d2]), (15, .bool false), (16, .agg #[.int .i64 a1, .int .i64 a2]), (17, .agg #[.int .i64 b1, .int .i64 b2]), (18, .agg #[.int .i64 c1, .int .i64 c2]), (19, .agg #[.int .i64 d1, .int .i64 d2]), (20, .slice (some ⟨gb20, 0, none⟩) 4 4), (21, .bool true), (22, .bool true), (23, .agg #[.int .i64 a1, .int .i64 a2]), (24, .agg #[.int .i64 b1, .int .i64 b2]), (25, .bool true), (26, .bool true), (27, .bool true), (28, .agg #[.int .i64 c1, .int .i64 c2]), (29, .agg #[.int .i64 d1, .int .i64 d2]), (30, .bool false), (31, .bool false), (32, .bool false), (33, undef), (34, undef), (35, undef), (36, undef), (37, undef), (38, .bool false), (39, .bool true), (40, .bool true), (8, .bool true)]
          ⟨I.val 0, I.val 1, I.val 2, I.val 3, I.val 4, I.val 5, I.val 6, I.val 7, I.val 8, I.val 9, I.val 10, ew20, I.val 12, I.val 13, I.val 14, I.val 15, I.val 16, I.val 17, I.val 18, I.val 19, I.val 20, I.val 21, I.val 22, I.val 23, I.gone 24, I.gone 25, I.gone 26, I.gone 27, I.gone 28, I.val 29, I.val 30, I.val 31, I.val 32, trivial⟩ rfl]
        change W0.heap.size ≤ gb20 at lw20
        have sW1 : W0.heap.size ≤ W1.heap.size := I.below.size
        replace ow4 := I.keep ow4.drawn trivial
        replace ow5 := I.keep ow5.drawn trivial
        replace ow6 := I.keep ow6.drawn trivial
        replace ow7 := I.keep ow7.drawn trivial
        have hW1 : Below w.heap.size w W1 := then_ hW0.drew I.below hW0.size
        clear ew20
        clear I
        simp only [List.foldl_cons, List.foldl_nil, List.setIfInBounds_toArray, List.set_cons_zero, List.set_cons_succ]
        clear ow4 ow5 ow6 ow7 ow20
        go_wp2
        try simp only [setCell_drawn]
        refine bodyPost_ret (by first | (simp [results, Try.results8, go_sem]; done) | (simp [results, Try.results8, go_sem]; rfl)) rfl ⟨?_, hW1⟩
        rfl
      · have t3_ := Lib.hid t3
        clear t3
        rcases Bool.eq_false_or_eq_true (rmB a1 a2 b1 b2 c1 c2 d1 d2) with t4 | t4
        · have t4_ := Lib.hid t4
          clear t4
          go_upto_region 1 with fail
          refine region_memo (B := W0.heap.size) (L := .val (.bool true) :: .val (.bool true) :: .val (.agg #[.int .i64 a1, .int .i64 a2]) :: .val (.agg #[.int .i64 b1, .int .i64 b2]) :: .val (.agg #[.int .i64 c1, .int .i64 c2]) :: .val (.agg #[.int .i64 d1, .int .i64 d2]) :: .val (.bool true) :: .val (.agg #[.int .i64 a1, .int .i64 a2]) :: .val (.agg #[.int .i64 b1, .int .i64 b2]) :: .val (.agg #[.int .i64 c1, .int .i64 c2]) :: .val (.agg #[.int .i64 d1, .int .i64 d2]) :: .new 23 #[.int .i64 a1, .int .i64 a2, .int .i64 b1, .int .i64 b2, .int .i64 c1, .int .i64 c2, .int .i64 d1, .int .i64 d2] (some (4, 4)) :: .val (.bool true) :: .val (.bool true) :: .val (.agg #[.int .i64 a1, .int .i64 a2]) :: .val (.agg #[.int .i64 b1, .int .i64 b2]) :: .val (.bool true) :: .val (.bool true) :: .val (.bool true) :: .val (.agg #[.int .i64 c1, .int .i64 c2]) :: .val (.agg #[.int .i64 d1, .int .i64 d2]) :: .val (.bool true) :: .val (.bool true) :: .val (.bool true) :: .val (.agg #[.int .i64 a1, .int .i64 a2]) :: .val (.agg #[.int .i64 b1, .int .i64 b2]) :: .val (.agg #[.int .i64 c1, .int .i64 c2]) :: .val (.agg #[.int .i64 d1, .int .i64 d2]) :: .val (.bool true) :: .val (.bool true) :: .val (.bool true) :: .val (.bool true) :: .val (.bool true) :: []) (by kernel_rfl) (by kernel_rfl) (Nat.le_refl _) ((by exact trivial))
            ⟨fun a w R => cl_0 (enter_at Try.func12)  (awake_any _), fun a w R => mv (R.val 0), fun a w R => ld_P (R.slot 4 rfl) (R.keep ow4.drawn trivial) rfl rfl, fun a w R => ld_P (R.slot 5 rfl) (R.keep ow5.drawn trivial) rfl rfl, fun a w R => ld_P (R.slot 6 rfl) (R.keep ow6.drawn trivial) rfl rfl, fun a w R => ld_P (R.slot 7 rfl) (R.keep ow7.drawn trivial) rfl rfl, fun a w R => cl_tttt (enter_at Try.func15) (R.val 2) (R.val 3) (R.val 4) (R.val 5) (Meet_is ((mt_in t1_.out t2_.out t3_.out).trans t4_.out) _), fun a w R => ld_P (R.slot 4 rfl) (R.keep ow4.drawn trivial) rfl rfl, fun a w R => ld_P (R.slot 5 rfl) (R.keep ow5.drawn trivial) rfl rfl, fun a w R => ld_P (R.slot 6 rfl) (R.keep ow6.drawn trivial) rfl rfl, fun a w R => ld_P (R.slot 7 rfl) (R.keep ow7.drawn trivial) rfl rfl, fun a w R => bsP_4 (R.val 7) (R.val 8) (R.val 9) (R.val 10), fun a w R => cl_n (enter_at Try.func11) (R.dep 11) (fun g hg => lawin4 t1_.out hg), fun a w R => mv (R.val 12), fun a w R => ld_P (R.slot 4 rfl) (R.keep ow4.drawn trivial) rfl rfl, fun a w R => ld_P (R.slot 5 rfl) (R.keep ow5.drawn trivial) rfl rfl, fun a w R => (e_neq_P (R.val 14) (R.val 15) ((fun w => (eq_Point _ _ _ _ w).trans (by rw [t2_.out])))), fun a w R => pickt (R.val 13) (R.val 16), fun a w R => mv (R.val 17), fun a w R => ld_P (R.slot 6 rfl) (R.keep ow6.drawn trivial) rfl rfl, fun a w R => ld_P (R.slot 7 rfl) (R.keep ow7.drawn trivial) rfl rfl, fun a w R => (e_neq_P (R.val 19) (R.val 20) ((fun w => (eq_Point _ _ _ _ w).trans (by rw [t3_.out])))), fun a w R => pickt (R.val 18) (R.val 21), fun a w R => mv (R.val 22), fun a w R => ld_P (R.slot 4 rfl) (R.keep ow4.drawn trivial) rfl rfl, fun a w R => ld_P (R.slot 5 rfl) (R.keep ow5.drawn trivial) rfl rfl, fun a w R => ld_P (R.slot 6 rfl) (R.keep ow6.drawn trivial) rfl rfl, fun a w R => ld_P (R.slot 7 rfl) (R.keep ow7.drawn trivial) rfl rfl, fun a w R => cl_tttt (enter_at Try.func27) (R.val 24) (R.val 25) (R.val 26) (R.val 27) (RMeet_is (in4_iff.1 t1_.out).1 (in4_iff.1 t1_.out).2.1 (in4_iff.1 t1_.out).2.2.1 (in4_iff.1 t1_.out).2.2.2 t4_.out _), fun a w R => pickt (R.val 23) (R.val 28), fun a w R => cb_eql_tt (R.val 6) (R.val 29) rfl, fun a w R => pickt (R.val 1) (R.val 30), fun a w R => asg (R.val 31), trivial⟩ (fun act_ W1 I => ?_)
          obtain ⟨gb20, ew20, lw20, ow20⟩ := I.new 11 rfl rfl rfl
          rw [I.act [(9, .bool true), (10, .bool true), (11, .agg #[.int .i64 a1, .int .i64 a2]), (12, .agg #[.int .i64 b1, .int .i64 b2]), (13, .agg #[.int .i64 c1, .int .i64 c2]), (14, .agg #[.int .i64 d1, .int .i64 d2]), (15, .bool true), (16, .agg #[.int .i64 a1, .int .i64 a2]), (17, .agg #[.int .i64 b1, .int .i64 b2]), (18, .agg #[.int .i64 c1, .int .i64 c2]), (19, .agg #[.int .i64 d1, .int .i64 d2]), (20, .slice (some ⟨gb20, 0, none⟩) 4 4), (21, .bool true), (22, .bool true), (23, .agg #[.int .i64 a1, .int .i64 a2]), (24, .agg #[.int .i64 b1, .int .i64 b2]), (25, .bool true), (26, .bool true), (27, .bool true), (28, .agg #[.int .i64 c1, .int .i64 c2]), (29, .agg #[.int .i64 d1, .int .i64 d2]), (30, .bool true), (31, .bool true), (32, .bool true), (33, .agg #[.int .i64 a1, .int .i64 a2]), (34, .agg #[.int .i64 b1, .int .i64 b2]), (35, .agg #[.int .i64 c1, .int .i64 c2]), (36, .agg #[.int .i64 d1, .int .i64 d2]), (37, .bool true), (38, .bool true), (39, .bool true), (40, .bool true), (8, .bool true)]
            ⟨I.val 0, I.val 1, I.val 2, I.val 3, I.val 4, I.val 5, I.val 6, I.val 7, I.val 8, I.val 9, I.val 10, ew20, I.val 12, I.val 13, I.val 14, I.val 15, I.val 16, I.val 17, I.val 18, I.val 19, I.val 20, I.val 21, I.val 22, I.val 23, I.val 24, I.val 25, I.val 26, I.val 27, I.val 28, I.val 29, I.val 30, I.val 31, I.val 32, trivial⟩ rfl]
          change W0.heap.size ≤ gb20 at lw20
          have sW1 : W0.heap.size ≤ W1.heap.size := I.below.size
          replace ow4 := I.keep ow4.drawn trivial
          replace ow5 := I.keep ow5.drawn trivial
          replace ow6 := I.keep ow6.drawn trivial
          replace ow7 := I.keep ow7.drawn trivial
          have hW1 : Below w.heap.size w W1 := then_ hW0.drew I.below hW0.size
          clear ew20
          clear I
          simp only [List.foldl_cons, List.foldl_nil, List.setIfInBounds_toArray, List.set_cons_zero, List.set_cons_succ]
          clear ow4 ow5 ow6 ow7 ow20
          go_wp2
          try simp only [setCell_drawn]
          refine bodyPost_ret (by first | (simp [results, Try.results8, go_sem]; done) | (simp [results, Try.results8, go_sem]; rfl)) rfl ⟨?_, hW1⟩
          rfl
        · have t4_ := Lib.hid t4
          clear t4
          go_upto_region 1 with fail
          refine region_memo (B := W0.heap.size) (L := .val (.bool true) :: .val (.bool true) :: .val (.agg #[.int .i64 a1, .int .i64 a2]) :: .val (.agg #[.int .i64 b1, .int .i64 b2]) :: .val (.agg #[.int .i64 c1, .int .i64 c2]) :: .val (.agg #[.int .i64 d1, .int .i64 d2]) :: .val (.bool false) :: .val (.agg #[.int .i64 a1, .int .i64 a2]) :: .val (.agg #[.int .i64 b1, .int .i64 b2]) :: .val (.agg #[.int .i64 c1, .int .i64 c2]) :: .val (.agg #[.int .i64 d1, .int .i64 d2]) :: .new 23 #[.int .i64 a1, .int .i64 a2, .int .i64 b1, .int .i64 b2, .int .i64 c1, .int .i64 c2, .int .i64 d1, .int .i64 d2] (some (4, 4)) :: .val (.bool true) :: .val (.bool true) :: .val (.agg #[.int .i64 a1, .int .i64 a2]) :: .val (.agg #[.int .i64 b1, .int .i64 b2]) :: .val (.bool true) :: .val (.bool true) :: .val (.bool true) :: .val (.agg #[.int .i64 c1, .int .i64 c2]) :: .val (.agg #[.int .i64 d1, .int .i64 d2]) :: .val (.bool true) :: .val (.bool true) :: .val (.bool true) :: .val (.agg #[.int .i64 a1, .int .i64 a2]) :: .val (.agg #[.int .i64 b1, .int .i64 b2]) :: .val (.agg #[.int .i64 c1, .int .i64 c2]) :: .val (.agg #[.int .i64 d1, .int .i64 d2]) :: .val (.bool false) :: .val (.bool false) :: .val (.bool true) :: .val (.bool true) :: .val (.bool true) :: []) (by kernel_rfl) (by kernel_rfl) (Nat.le_refl _) ((by exact trivial))
            ⟨fun a w R => cl_0 (enter_at Try.func12)  (awake_any _), fun a w R => mv (R.val 0), fun a w R => ld_P (R.slot 4 rfl) (R.keep ow4.drawn trivial) rfl rfl, fun a w R => ld_P (R.slot 5 rfl) (R.keep ow5.drawn trivial) rfl rfl, fun a w R => ld_P (R.slot 6 rfl) (R.keep ow6.drawn trivial) rfl rfl, fun a w R => ld_P (R.slot 7 rfl) (R.keep ow7.drawn trivial) rfl rfl, fun a w R => cl_tttt (enter_at Try.func15) (R.val 2) (R.val 3) (R.val 4) (R.val 5) (Meet_is ((mt_in t1_.out t2_.out t3_.out).trans t4_.out) _), fun a w R => ld_P (R.slot 4 rfl) (R.keep ow4.drawn trivial) rfl rfl, fun a w R => ld_P (R.slot 5 rfl) (R.keep ow5.drawn trivial) rfl rfl, fun a w R => ld_P (R.slot 6 rfl) (R.keep ow6.drawn trivial) rfl rfl, fun a w R => ld_P (R.slot 7 rfl) (R.keep ow7.drawn trivial) rfl rfl, fun a w R => bsP_4 (R.val 7) (R.val 8) (R.val 9) (R.val 10), fun a w R => cl_n (enter_at Try.func11) (R.dep 11) (fun g hg => lawin4 t1_.out hg), fun a w R => mv (R.val 12), fun a w R => ld_P (R.slot 4 rfl) (R.keep ow4.drawn trivial) rfl rfl, fun a w R => ld_P (R.slot 5 rfl) (R.keep ow5.drawn trivial) rfl rfl, fun a w R => (e_neq_P (R.val 14) (R.val 15) ((fun w => (eq_Point _ _ _ _ w).trans (by rw [t2_.out])))), fun a w R => pickt (R.val 13) (R.val 16), fun a w R => mv (R.val 17), fun a w R => ld_P (R.slot 6 rfl) (R.keep ow6.drawn trivial) rfl rfl, fun a w R => ld_P (R.slot 7 rfl) (R.keep ow7.drawn trivial) rfl rfl, fun a w R => (e_neq_P (R.val 19) (R.val 20) ((fun w => (eq_Point _ _ _ _ w).trans (by rw [t3_.out])))), fun a w R => pickt (R.val 18) (R.val 21), fun a w R => mv (R.val 22), fun a w R => ld_P (R.slot 4 rfl) (R.keep ow4.drawn trivial) rfl rfl, fun a w R => ld_P (R.slot 5 rfl) (R.keep ow5.drawn trivial) rfl rfl, fun a w R => ld_P (R.slot 6 rfl) (R.keep ow6.drawn trivial) rfl rfl, fun a w R => ld_P (R.slot 7 rfl) (R.keep ow7.drawn trivial) rfl rfl, fun a w R => cl_tttt (enter_at Try.func27) (R.val 24) (R.val 25) (R.val 26) (R.val 27) (RMeet_is (in4_iff.1 t1_.out).1 (in4_iff.1 t1_.out).2.1 (in4_iff.1 t1_.out).2.2.1 (in4_iff.1 t1_.out).2.2.2 t4_.out _), fun a w R => pickt (R.val 23) (R.val 28), fun a w R => cb_eql_tt (R.val 6) (R.val 29) rfl, fun a w R => pickt (R.val 1) (R.val 30), fun a w R => asg (R.val 31), trivial⟩ (fun act_ W1 I => ?_)
          obtain ⟨gb20, ew20, lw20, ow20⟩ := I.new 11 rfl rfl rfl
          rw [I.act [(9, .bool true), (10, .bool true), (11, .agg #[.int .i64 a1, .int .i64 a2]), (12, .agg #[.int .i64 b1, .int .i64 b2]), (13, .agg #[.int .i64 c1, .int .i64 c2]), (14, .agg #[.int .i64 d1, .int .i64 d2]), (15, .bool false), (16, .agg #[.int .i64 a1, .int .i64 a2]), (17, .agg #[.int .i64 b1, .int .i64 b2]), (18, .agg #[.int .i64 c1, .int .i64 c2]), (19, .agg #[.int .i64 d1, .int .i64 d2]), (20, .slice (some ⟨gb20, 0, none⟩) 4 4), (21, .bool true), (22, .bool true), (23, .agg #[.int .i64 a1, .int .i64 a2]), (24, .agg #[.int .i64 b1, .int .i64 b2]), (25, .bool true), (26, .bool true), (27, .bool true), (28, .agg #[.int .i64 c1, .int .i64 c2]), (29, .agg #[.int .i64 d1, .int .i64 d2]), (30, .bool true), (31, .bool true), (32, .bool true), (33, .agg #[.int .i64 a1, .int .i64 a2]), (34, .agg #[.int .i64 b1, .int .i64 b2]), (35, .agg #[.int .i64 c1, .int .i64 c2]), (36, .agg #[.int .i64 d1, .int .i64 d2]), (37, .bool false), (38, .bool false), (39, .bool true), (40, .bool true), (8, .bool true)]
            ⟨I.val 0, I.val 1, I.val 2, I.val 3, I.val 4, I.val 5, I.val 6, I.val 7, I.val 8, I.val 9, I.val 10, ew20, I.val 12, I.val 13, I.val 14, I.val 15, I.val 16, I.val 17, I.val 18, I.val 19, I.val 20, I.val 21, I.val 22, I.val 23, I.val 24, I.val 25, I.val 26, I.val 27, I.val 28, I.val 29, I.val 30, I.val 31, I.val 32, trivial⟩ rfl]
          change W0.heap.size ≤ gb20 at lw20
          have sW1 : W0.heap.size ≤ W1.heap.size := I.below.size
          replace ow4 := I.keep ow4.drawn trivial
          replace ow5 := I.keep ow5.drawn trivial
          replace ow6 := I.keep ow6.drawn trivial
          replace ow7 := I.keep ow7.drawn trivial
          have hW1 : Below w.heap.size w W1 := then_ hW0.drew I.below hW0.size
          clear ew20
          clear I
          simp only [List.foldl_cons, List.foldl_nil, List.setIfInBounds_toArray, List.set_cons_zero, List.set_cons_succ]
          clear ow4 ow5 ow6 ow7 ow20
          go_wp2
          try simp only [setCell_drawn]
          refine bodyPost_ret (by first | (simp [results, Try.results8, go_sem]; done) | (simp [results, Try.results8, go_sem]; rfl)) rfl ⟨?_, hW1⟩
          rfl
  · have t1_ := Lib.hid t1
    clear t1
    go_upto_region 1 with fail
    refine region_memo (B := W0.heap.size) (L := .val (.bool true) :: .val (.bool true) :: .val (.agg #[.int .i64 a1, .int .i64 a2]) :: .val (.agg #[.int .i64 b1, .int .i64 b2]) :: .val (.agg #[.int .i64 c1, .int .i64 c2]) :: .val (.agg #[.int .i64 d1, .int .i64 d2]) :: .val (.bool false) :: .val (.agg #[.int .i64 a1, .int .i64 a2]) :: .val (.agg #[.int .i64 b1, .int .i64 b2]) :: .val (.agg #[.int .i64 c1, .int .i64 c2]) :: .val (.agg #[.int .i64 d1, .int .i64 d2]) :: .new 23 #[.int .i64 a1, .int .i64 a2, .int .i64 b1, .int .i64 b2, .int .i64 c1, .int .i64 c2, .int .i64 d1, .int .i64 d2] (some (4, 4)) :: .val (.bool false) :: .val (.bool false) :: .skip :: .skip :: .skip :: .val (.bool false) :: .val (.bool false) :: .skip :: .skip :: .skip :: .val (.bool false) :: .val (.bool false) :: .skip :: .skip :: .skip :: .skip :: .skip :: .val (.bool false) :: .val (.bool true) :: .val (.bool true) :: .val (.bool true) :: []) (by kernel_rfl) (by kernel_rfl) (Nat.le_refl _) ((by exact trivial))
      ⟨fun a w R => cl_0 (enter_at Try.func12)  (awake_any _), fun a w R => mv (R.val 0), fun a w R => ld_P (R.slot 4 rfl) (R.keep ow4.drawn trivial) rfl rfl, fun a w R => ld_P (R.slot 5 rfl) (R.keep ow5.drawn trivial) rfl rfl, fun a w R => ld_P (R.slot 6 rfl) (R.keep ow6.drawn trivial) rfl rfl, fun a w R => ld_P (R.slot 7 rfl) (R.keep ow7.drawn trivial) rfl rfl, fun a w R => cl_tttt (enter_at Try.func15) (R.val 2) (R.val 3) (R.val 4) (R.val 5) (Meet_is (mt_out1 t1_.out) _), fun a w R => ld_P (R.slot 4 rfl) (R.keep ow4.drawn trivial) rfl rfl, fun a w R => ld_P (R.slot 5 rfl) (R.keep ow5.drawn trivial) rfl rfl, fun a w R => ld_P (R.slot 6 rfl) (R.keep ow6.drawn trivial) rfl rfl, fun a w R => ld_P (R.slot 7 rfl) (R.keep ow7.drawn trivial) rfl rfl, fun a w R => bsP_4 (R.val 7) (R.val 8) (R.val 9) (R.val 10), fun a w R => cl_n (enter_at Try.func11) (R.dep 11) (fun g hg => lawin4 t1_.out hg), fun a w R => mv (R.val 12), fun a w R => True.intro, fun a w R => True.intro, fun a w R => True.intro, fun a w R => pickf (R.val 13) (R.goneS 16), fun a w R => mv (R.val 17), fun a w R => True.intro, fun a w R => True.intro, fun a w R => True.intro, fun a w R => pickf (R.val 18) (R.goneS 21), fun a w R => mv (R.val 22), fun a w R => True.intro, fun a w R => True.intro, fun a w R => True.intro, fun a w R => True.intro, fun a w R => True.intro, fun a w R => pickf (R.val 23) (R.goneS 28), fun a w R => cb_eql_tt (R.val 6) (R.val 29) rfl, fun a w R => pickt (R.val 1) (R.val 30), fun a w R => asg (R.val 31), trivial⟩ (fun act_ W1 I => ?_)
    obtain ⟨gb20, ew20, lw20, ow20⟩ := I.new 11 rfl rfl rfl
    rw [I.act [(9, .bool true), (10, .bool true), (11, .agg #[.int .i64 a1, .int .i64 a2]), (12, .agg #[.int .i64 b1, .int .i64 b2]), (13, .agg #[.int .i64 c1, .int .i64 c2]), (14, .agg #[.int .i64 d1, .int .i64 d2]), (15, .bool false), (16, .agg #[.int .i64 a1, .int .i64 a2]), (17, .agg #[.int .i64 b1, .int .i64 b2]), (18, .agg #[.int .i64 c1, .int .i64 c2]), (19, .agg #[.int .i64 d1, .int .i64 d2]), (20, .slice (some ⟨gb20, 0, none⟩) 4 4), (21, .bool false), (22, .bool false), (23, undef), (24, undef), (25, undef), (26, .bool false), (27, .bool false), (28, undef), (29, undef), (30, undef), (31, .bool false), (32, .bool false), (33, undef), (34, undef), (35, undef), (36, undef), (37, undef), (38, .bool false), (39, .bool true), (40, .bool true), (8, .bool true)]
      ⟨I.val 0, I.val 1, I.val 2, I.val 3, I.val 4, I.val 5, I.val 6, I.val 7, I.val 8, I.val 9, I.val 10, ew20, I.val 12, I.val 13, I.gone 14, I.gone 15, I.gone 16, I.val 17, I.val 18, I.gone 19, I.gone 20, I.gone 21, I.val 22, I.val 23, I.gone 24, I.gone 25, I.gone 26, I.gone 27, I.gone 28, I.val 29, I.val 30, I.val 31, I.val 32, trivial⟩ rfl]
    change W0.heap.size ≤ gb20 at lw20
    have sW1 : W0.heap.size ≤ W1.heap.size := I.below.size
    replace ow4 := I.keep ow4.drawn trivial
    replace ow5 := I.keep ow5.drawn trivial
    replace ow6 := I.keep ow6.drawn trivial
    replace ow7 := I.keep ow7.drawn trivial
    have hW1 : Below w.heap.size w W1 := then_ hW0.drew I.below hW0.size
    clear ew20
    clear I
    simp only [List.foldl_cons, List.foldl_nil, List.setIfInBounds_toArray, List.set_cons_zero, List.set_cons_succ]
    clear ow4 ow5 ow6 ow7 ow20
    go_wp2
    try simp only [setCell_drawn]
    refine bodyPost_ret (by first | (simp [results, Try.results8, go_sem]; done) | (simp [results, Try.results8, go_sem]; rfl)) rfl ⟨?_, hW1⟩
    rfl

set_option maxRecDepth 100000 in
theorem lifted (os : Os) (started : os.Started) (H : Type) (enc : TypeId × Value → H) :
    ReturnsInHanded {} Try.checked os 8 .any (Rows.geomMeetsSpec.pre6 enc Try.prog Try.f8 Rows.geomMeetsRow.domain false) (Rows.geomMeetsSpec.post enc Try.prog Try.f8 false true false false) := by
  refine returnsInHanded_of_change (C := Try.checked) own started (by kernel_rfl) Try.func8
    (ChangeSpec.witness6 (enc := enc) (C := Try.checked) false ⟨#[], #[.agg #[.int .i64 0, .int .i64 0], .agg #[.int .i64 0, .int .i64 0], .agg #[.int .i64 0, .int .i64 0], .agg #[.int .i64 0, .int .i64 0]], []⟩ 8 (by kernel_rfl) (by kernel_rfl) (by kernel_rfl) (by kernel_rfl)) ?_
  intro W base args ds gs before hval0 hW hcnd _
  have hval : ∀ (j : Nat) t v, Try.f8.params[j]? = some t → args[j]? = some v → Value.okWide Try.prog W .any base t v := hval0
  have hW' := hW
  obtain ⟨p, q, hA0, hV, rfl, hfz, hnd⟩ := hW
  have hA : DataW.TrodAll enc Try.prog W 0 (fun _ => true) true Try.f8.params.toList args.toList ds p := hA0
  rw [Try.params8] at hA hval
  obtain ⟨v0, vs0, d0, ds0, p0, q0, hargs, rfl, rfl, h0, r0⟩ := trodAll_cons hA
  obtain ⟨v1, vs1, d1, ds1, p1, q1, rfl, rfl, rfl, h1, r1⟩ := trodAll_cons r0
  obtain ⟨v2, vs2, d2, ds2, p2, q2, rfl, rfl, rfl, h2, r2⟩ := trodAll_cons r1
  obtain ⟨v3, vs3, d3, ds3, p3, q3, rfl, rfl, rfl, h3, r3⟩ := trodAll_cons r2
  obtain ⟨rfl, rfl, rfl⟩ := trodAll_nil r3
  obtain rfl : args = #[v0, v1, v2, v3] := by cases args; simp_all
  obtain ⟨rfl, rfl⟩ := trodVars_none hV
  obtain ⟨a1, a2, rfl, rfl, fa1, fa2⟩ := open_pt (hval 0 23 v0 rfl rfl) h0
  obtain ⟨b1, b2, rfl, rfl, fb1, fb2⟩ := open_pt (hval 1 23 v1 rfl rfl) h1
  obtain ⟨c1, c2, rfl, rfl, fc1, fc2⟩ := open_pt (hval 2 23 v2 rfl rfl) h2
  obtain ⟨d1, d2, rfl, rfl, fd1, fd2⟩ := open_pt (hval 3 23 v3 rfl rfl) h3
  clear hA0 hval0
  refine (walk a1 a2 b1 b2 c1 c2 d1 d2 W fa1 fa2 fb1 fb2 fc1 fc2 fd1 fd2).mono fun e W' ⟨he, bel⟩ => ?_
  subst he
  exact ⟨_, rfl, _, _, _, [], _, [], hW', trodAll_mk1 (shut_bool Try.underlying4 _), (trodAll_cons_mk (Below.trod laidOut (by kernel_rfl) (of_decide_eq_true (by kernel_rfl)) h0 bel (fun x hx => by cases hx)) (trodAll_cons_mk (Below.trod laidOut (by kernel_rfl) (of_decide_eq_true (by kernel_rfl)) h1 bel (fun x hx => by cases hx)) (trodAll_cons_mk (Below.trod laidOut (by kernel_rfl) (of_decide_eq_true (by kernel_rfl)) h2 bel (fun x hx => by cases hx)) (trodAll_cons_mk (Below.trod laidOut (by kernel_rfl) (of_decide_eq_true (by kernel_rfl)) h3 bel (fun x hx => by cases hx)) trodAll_mk0)))), rfl, bel.frame _, fun h => by cases h⟩

theorem over : Rows.geomMeetsRow.holds Try.pinned (OpenSpec.ofChange Rows.geomMeetsSpec) :=
  OpenClaim.holds_of_wide 8 Try.f8 rfl rfl rfl rfl rfl rfl rfl ⟨rfl, rfl, rfl, rfl, rfl⟩ rfl rfl rfl rfl rfl (by kernel_rfl) Try.func8 (by kernel_rfl)
    (of_decide_eq_true (by kernel_rfl)) (by unfold Func.isWrapper; first | (rw [if_pos (by decide +kernel)]; kernel_rfl) | (rw [if_neg (by decide +kernel)]; exact ⟨rfl, rfl⟩))
    (fun os started H enc _ => lifted os started H enc)

/-- THE STATEMENT -/
theorem proved : Rows.GeomMeetsSaid := over
#print axioms proved
end Go.Proofs.Ytlifghecgpibfaa.geomMeets
