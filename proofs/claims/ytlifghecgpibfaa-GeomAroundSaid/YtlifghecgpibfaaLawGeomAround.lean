/- GeomAround: how any two directions stand to each other is the document's; for any three points. -/
import Derived.Test.YtlifghecgpibfaaRows
import Derived.Test.YtlifghecgpibfaaBase
import Derived.Test.YtlifghecgpibfaaGeoH
import Derived.Test.YtlifghecgpibfaaPts
import Derived.Test.YtlifghecgpibfaaGeoGs
import Derived.WalkKit
import Derived.ProofKit
import Derived.OpenShut
import Derived.ShutString
import Derived.ChangeOld
import Derived.Below
import Derived.SliceStrings
namespace Go.Proofs.Ytlifghecgpibfaa.geomAround
open Go.ChangeShapes Go.WideShapes Go.ChangeAt Go.RowKit
open Go.ChangeMaps (open_string shut_string)
set_option linter.unusedVariables false

theorem own : ownKnob Try.prog.godebug = none := by kernel_rfl
theorem laidOut : laidOutB Try.prog = true := by kernel_rfl

set_option maxHeartbeats 16000000 in
set_option maxRecDepth 20000 in
theorem walk (o1 o2 : Int) (a1 a2 : Int) (b1 b2 : Int) (w : World) (fo1 : (Lit.int .i64 o1).wf = true) (fo2 : (Lit.int .i64 o2).wf = true) (fa1 : (Lit.int .i64 a1).wf = true) (fa2 : (Lit.int .i64 a2).wf = true) (fb1 : (Lit.int .i64 b1).wf = true) (fb2 : (Lit.int .i64 b2).wf = true) :
    Calls Try.prog 9 #[.agg #[.int .i64 o1, .int .i64 o2], .agg #[.int .i64 a1, .int .i64 a2], .agg #[.int .i64 b1, .int .i64 b2]] w fun e w' => e = .returned (.bool true) ∧ Below w.heap.size w w' := by
  go_enter Try.func9, Try.ntmps9
  go_upto_region 1 with fail
  go_name_world W0 hW0e
  have ow3 : Own W0 w.heap.size 23 #[.int .i64 o1, .int .i64 o2] := hW0e ▸ (by repeat' (first | (with_reducible assumption) | (with_reducible refine Own.drawnN ?_ _) | (with_reducible refine Own.drawn ?_) | (with_reducible refine Own.made_at ?_; first | rfl | (simp; done) | omega | (simp; omega)) | (with_reducible refine Own.more ?_ _) | (with_reducible refine Own.apart ?_ ?_ _ _; rotate_left; first | omega | (simp; done) | (simp; omega)) | (refine Own.put ?_ _ _)))
  have ow4 : Own W0 (w.heap.size + 1) 23 #[.int .i64 a1, .int .i64 a2] := hW0e ▸ (by repeat' (first | (with_reducible assumption) | (with_reducible refine Own.drawnN ?_ _) | (with_reducible refine Own.drawn ?_) | (with_reducible refine Own.made_at ?_; first | rfl | (simp; done) | omega | (simp; omega)) | (with_reducible refine Own.more ?_ _) | (with_reducible refine Own.apart ?_ ?_ _ _; rotate_left; first | omega | (simp; done) | (simp; omega)) | (refine Own.put ?_ _ _)))
  have ow5 : Own W0 (w.heap.size + 1 + 1) 23 #[.int .i64 b1, .int .i64 b2] := hW0e ▸ (by repeat' (first | (with_reducible assumption) | (with_reducible refine Own.drawnN ?_ _) | (with_reducible refine Own.drawn ?_) | (with_reducible refine Own.made_at ?_; first | rfl | (simp; done) | omega | (simp; omega)) | (with_reducible refine Own.more ?_ _) | (with_reducible refine Own.apart ?_ ?_ _ _; rotate_left; first | omega | (simp; done) | (simp; omega)) | (refine Own.put ?_ _ _)))
  have hW0 : Below w.heap.size w W0 := hW0e ▸ (by repeat' (first | (with_reducible exact Below.refl _ _) | (with_reducible assumption) | (with_reducible refine below_drewN ?_ _) | (with_reducible refine Below.drew ?_) | (with_reducible refine Below.alloc ?_ ?_ _) | (with_reducible refine Below.setCell ?_ ?_ _) | (with_reducible refine then_ ?_ (by with_reducible assumption) ?_) | (with_reducible exact Nat.le_refl _) | (with_reducible exact Nat.le_succ _) | (with_reducible exact Nat.le_succ_of_le (by with_reducible assumption)) | omega | (simp; done) | (simp; omega) | (exact Nat.le_succ _) | (exact Nat.le_succ_of_le (by with_reducible assumption))))
  clear hW0e
  have z0 := ow5.in_
  go_upto_region 1 with fail
  refine region_memo_f (B := W0.heap.size) (L := .val (.int .i64 0) :: []) (by kernel_rfl) (Nat.le_refl _) ((by exact trivial))
    ⟨fun a w R => asc, trivial⟩ (fun act_ W1 I => ?_)
  rw [I.act [(7, .int .i64 0)]
    ⟨I.val 0, trivial⟩ rfl]
  have sW1 : W0.heap.size ≤ W1.heap.size := I.below.size
  replace ow3 := I.keep ow3 trivial
  replace ow4 := I.keep ow4 trivial
  replace ow5 := I.keep ow5 trivial
  have hW1 : Below w.heap.size w W1 := then_ hW0 I.below hW0.size
  clear I
  simp only [List.foldl_cons, List.foldl_nil, List.setIfInBounds_toArray, List.set_cons_zero, List.set_cons_succ]
  rcases Bool.eq_false_or_eq_true (in3 o1 o2 a1 a2 b1 b2) with t1 | t1
  · have t1_ := Lib.hid t1
    clear t1
    rcases Bool.eq_false_or_eq_true (decide (a1 = o1 ∧ a2 = o2)) with t2 | t2
    · have t2_ := Lib.hid t2
      clear t2
      go_upto_region 2 with fail
      refine region_memo_f (B := W1.heap.size) (L := .val (.agg #[.int .i64 o1, .int .i64 o2]) :: .val (.agg #[.int .i64 a1, .int .i64 a2]) :: .val (.agg #[.int .i64 b1, .int .i64 b2]) :: .new 23 #[.int .i64 o1, .int .i64 o2, .int .i64 a1, .int .i64 a2, .int .i64 b1, .int .i64 b2] (some (3, 3)) :: .val (.bool true) :: .val (.bool true) :: .val (.agg #[.int .i64 a1, .int .i64 a2]) :: .val (.agg #[.int .i64 o1, .int .i64 o2]) :: .val (.bool false) :: .val (.bool false) :: .val (.bool false) :: .skip :: .skip :: .skip :: .val (.bool false) :: []) (by kernel_rfl) (Nat.le_refl _) ((by exact trivial))
        ⟨fun a w R => ld_P (R.slot 3 rfl) (R.keep ow3 trivial) rfl rfl, fun a w R => ld_P (R.slot 4 rfl) (R.keep ow4 trivial) rfl rfl, fun a w R => ld_P (R.slot 5 rfl) (R.keep ow5 trivial) rfl rfl, fun a w R => bsP_3 (R.val 0) (R.val 1) (R.val 2), fun a w R => cl_n (enter_at Try.func11) (R.dep 3) (fun g hg => lawin3 t1_.out hg), fun a w R => mv (R.val 4), fun a w R => ld_P (R.slot 4 rfl) (R.keep ow4 trivial) rfl rfl, fun a w R => ld_P (R.slot 3 rfl) (R.keep ow3 trivial) rfl rfl, fun a w R => (e_neq_P (R.val 6) (R.val 7) ((fun w => (eq_Point _ _ _ _ w).trans (by rw [t2_.out])))), fun a w R => pickt (R.val 5) (R.val 8), fun a w R => mv (R.val 9), fun a w R => True.intro, fun a w R => True.intro, fun a w R => True.intro, fun a w R => pickf (R.val 10) (R.goneS 13), trivial⟩ (fun act_ W2 I => ?_)
      obtain ⟨gb11, ew11, lw11, ow11⟩ := I.new 3 rfl rfl rfl
      rw [I.act [(8, .agg #[.int .i64 o1, .int .i64 o2]), (9, .agg #[.int .i64 a1, .int .i64 a2]), (10, .agg #[.int .i64 b1, .int .i64 b2]), (11, .slice (some ⟨gb11, 0, none⟩) 3 3), (12, .bool true), (13, .bool true), (14, .agg #[.int .i64 a1, .int .i64 a2]), (15, .agg #[.int .i64 o1, .int .i64 o2]), (16, .bool false), (17, .bool false), (18, .bool false), (19, undef), (20, undef), (21, undef), (22, .bool false)]
        ⟨I.val 0, I.val 1, I.val 2, ew11, I.val 4, I.val 5, I.val 6, I.val 7, I.val 8, I.val 9, I.val 10, I.gone 11, I.gone 12, I.gone 13, I.val 14, trivial⟩ rfl]
      change W1.heap.size ≤ gb11 at lw11
      have sW2 : W1.heap.size ≤ W2.heap.size := I.below.size
      replace ow3 := I.keep ow3 trivial
      replace ow4 := I.keep ow4 trivial
      replace ow5 := I.keep ow5 trivial
      have hW2 : Below w.heap.size w W2 := then_ hW1 I.below hW1.size
      clear ew11
      clear I
      simp only [List.foldl_cons, List.foldl_nil, List.setIfInBounds_toArray, List.set_cons_zero, List.set_cons_succ]
      go_upto_region 4 with fail
      refine region_memo_f (B := W2.heap.size) (L := .val (.bool true) :: .val (.bool true) :: .val (.agg #[.int .i64 o1, .int .i64 o2]) :: .val (.agg #[.int .i64 a1, .int .i64 a2]) :: .val (.agg #[.int .i64 b1, .int .i64 b2]) :: .val (.int .i64 0) :: .val (.int .i64 0) :: .val (.bool true) :: .val (.bool true) :: .val (.bool true) :: []) (by kernel_rfl) (Nat.le_refl _) ((by exact trivial))
        ⟨fun a w R => cl_0 (enter_at Try.func12)  (awake_any _), fun a w R => mv (R.val 0), fun a w R => ld_P (R.slot 3 rfl) (R.keep ow3 trivial) rfl rfl, fun a w R => ld_P (R.slot 4 rfl) (R.keep ow4 trivial) rfl rfl, fun a w R => ld_P (R.slot 5 rfl) (R.keep ow5 trivial) rfl rfl, fun a w R => cl_ttt (enter_at Try.func18) (R.val 2) (R.val 3) (R.val 4) (Around_is (rd_out2 t2_.out) _), fun a w R => mv (R.slot 7 rfl), fun a w R => c_eql_tt (R.val 5) (R.val 6) (Try.underlying3) (by decide), fun a w R => pickt (R.val 1) (R.val 7), fun a w R => asg (R.val 8), trivial⟩ (fun act_ W3 I => ?_)
      rw [I.act [(27, .bool true), (28, .bool true), (29, .agg #[.int .i64 o1, .int .i64 o2]), (30, .agg #[.int .i64 a1, .int .i64 a2]), (31, .agg #[.int .i64 b1, .int .i64 b2]), (32, .int .i64 0), (33, .int .i64 0), (34, .bool true), (35, .bool true), (6, .bool true)]
        ⟨I.val 0, I.val 1, I.val 2, I.val 3, I.val 4, I.val 5, I.val 6, I.val 7, I.val 8, I.val 9, trivial⟩ rfl]
      have sW3 : W2.heap.size ≤ W3.heap.size := I.below.size
      replace ow3 := I.keep ow3 trivial
      replace ow4 := I.keep ow4 trivial
      replace ow5 := I.keep ow5 trivial
      replace ow11 := I.keep ow11 trivial
      have hW3 : Below w.heap.size w W3 := then_ hW2 I.below hW2.size
      clear I
      simp only [List.foldl_cons, List.foldl_nil, List.setIfInBounds_toArray, List.set_cons_zero, List.set_cons_succ]
      clear ow3 ow4 ow5 ow11
      go_wp2
      try simp only [setCell_drawn]
      refine bodyPost_ret (by first | (simp [results, Try.results9, go_sem]; done) | (simp [results, Try.results9, go_sem]; rfl)) rfl ⟨?_, hW3⟩
      rfl
    · have t2_ := Lib.hid t2
      clear t2
      rcases Bool.eq_false_or_eq_true (decide (b1 = o1 ∧ b2 = o2)) with t3 | t3
      · have t3_ := Lib.hid t3
        clear t3
        go_upto_region 2 with fail
        refine region_memo_f (B := W1.heap.size) (L := .val (.agg #[.int .i64 o1, .int .i64 o2]) :: .val (.agg #[.int .i64 a1, .int .i64 a2]) :: .val (.agg #[.int .i64 b1, .int .i64 b2]) :: .new 23 #[.int .i64 o1, .int .i64 o2, .int .i64 a1, .int .i64 a2, .int .i64 b1, .int .i64 b2] (some (3, 3)) :: .val (.bool true) :: .val (.bool true) :: .val (.agg #[.int .i64 a1, .int .i64 a2]) :: .val (.agg #[.int .i64 o1, .int .i64 o2]) :: .val (.bool true) :: .val (.bool true) :: .val (.bool true) :: .val (.agg #[.int .i64 b1, .int .i64 b2]) :: .val (.agg #[.int .i64 o1, .int .i64 o2]) :: .val (.bool false) :: .val (.bool false) :: []) (by kernel_rfl) (Nat.le_refl _) ((by exact trivial))
          ⟨fun a w R => ld_P (R.slot 3 rfl) (R.keep ow3 trivial) rfl rfl, fun a w R => ld_P (R.slot 4 rfl) (R.keep ow4 trivial) rfl rfl, fun a w R => ld_P (R.slot 5 rfl) (R.keep ow5 trivial) rfl rfl, fun a w R => bsP_3 (R.val 0) (R.val 1) (R.val 2), fun a w R => cl_n (enter_at Try.func11) (R.dep 3) (fun g hg => lawin3 t1_.out hg), fun a w R => mv (R.val 4), fun a w R => ld_P (R.slot 4 rfl) (R.keep ow4 trivial) rfl rfl, fun a w R => ld_P (R.slot 3 rfl) (R.keep ow3 trivial) rfl rfl, fun a w R => (e_neq_P (R.val 6) (R.val 7) ((fun w => (eq_Point _ _ _ _ w).trans (by rw [t2_.out])))), fun a w R => pickt (R.val 5) (R.val 8), fun a w R => mv (R.val 9), fun a w R => ld_P (R.slot 5 rfl) (R.keep ow5 trivial) rfl rfl, fun a w R => ld_P (R.slot 3 rfl) (R.keep ow3 trivial) rfl rfl, fun a w R => (e_neq_P (R.val 11) (R.val 12) ((fun w => (eq_Point _ _ _ _ w).trans (by rw [t3_.out])))), fun a w R => pickt (R.val 10) (R.val 13), trivial⟩ (fun act_ W2 I => ?_)
        obtain ⟨gb11, ew11, lw11, ow11⟩ := I.new 3 rfl rfl rfl
        rw [I.act [(8, .agg #[.int .i64 o1, .int .i64 o2]), (9, .agg #[.int .i64 a1, .int .i64 a2]), (10, .agg #[.int .i64 b1, .int .i64 b2]), (11, .slice (some ⟨gb11, 0, none⟩) 3 3), (12, .bool true), (13, .bool true), (14, .agg #[.int .i64 a1, .int .i64 a2]), (15, .agg #[.int .i64 o1, .int .i64 o2]), (16, .bool true), (17, .bool true), (18, .bool true), (19, .agg #[.int .i64 b1, .int .i64 b2]), (20, .agg #[.int .i64 o1, .int .i64 o2]), (21, .bool false), (22, .bool false)]
          ⟨I.val 0, I.val 1, I.val 2, ew11, I.val 4, I.val 5, I.val 6, I.val 7, I.val 8, I.val 9, I.val 10, I.val 11, I.val 12, I.val 13, I.val 14, trivial⟩ rfl]
        change W1.heap.size ≤ gb11 at lw11
        have sW2 : W1.heap.size ≤ W2.heap.size := I.below.size
        replace ow3 := I.keep ow3 trivial
        replace ow4 := I.keep ow4 trivial
        replace ow5 := I.keep ow5 trivial
        have hW2 : Below w.heap.size w W2 := then_ hW1 I.below hW1.size
        clear ew11
        clear I
        simp only [List.foldl_cons, List.foldl_nil, List.setIfInBounds_toArray, List.set_cons_zero, List.set_cons_succ]
        go_upto_region 4 with fail
        refine region_memo_f (B := W2.heap.size) (L := .val (.bool true) :: .val (.bool true) :: .val (.agg #[.int .i64 o1, .int .i64 o2]) :: .val (.agg #[.int .i64 a1, .int .i64 a2]) :: .val (.agg #[.int .i64 b1, .int .i64 b2]) :: .val (.int .i64 0) :: .val (.int .i64 0) :: .val (.bool true) :: .val (.bool true) :: .val (.bool true) :: []) (by kernel_rfl) (Nat.le_refl _) ((by exact trivial))
          ⟨fun a w R => cl_0 (enter_at Try.func12)  (awake_any _), fun a w R => mv (R.val 0), fun a w R => ld_P (R.slot 3 rfl) (R.keep ow3 trivial) rfl rfl, fun a w R => ld_P (R.slot 4 rfl) (R.keep ow4 trivial) rfl rfl, fun a w R => ld_P (R.slot 5 rfl) (R.keep ow5 trivial) rfl rfl, fun a w R => cl_ttt (enter_at Try.func18) (R.val 2) (R.val 3) (R.val 4) (Around_is (rd_out3 t3_.out) _), fun a w R => mv (R.slot 7 rfl), fun a w R => c_eql_tt (R.val 5) (R.val 6) (Try.underlying3) (by decide), fun a w R => pickt (R.val 1) (R.val 7), fun a w R => asg (R.val 8), trivial⟩ (fun act_ W3 I => ?_)
        rw [I.act [(27, .bool true), (28, .bool true), (29, .agg #[.int .i64 o1, .int .i64 o2]), (30, .agg #[.int .i64 a1, .int .i64 a2]), (31, .agg #[.int .i64 b1, .int .i64 b2]), (32, .int .i64 0), (33, .int .i64 0), (34, .bool true), (35, .bool true), (6, .bool true)]
          ⟨I.val 0, I.val 1, I.val 2, I.val 3, I.val 4, I.val 5, I.val 6, I.val 7, I.val 8, I.val 9, trivial⟩ rfl]
        have sW3 : W2.heap.size ≤ W3.heap.size := I.below.size
        replace ow3 := I.keep ow3 trivial
        replace ow4 := I.keep ow4 trivial
        replace ow5 := I.keep ow5 trivial
        replace ow11 := I.keep ow11 trivial
        have hW3 : Below w.heap.size w W3 := then_ hW2 I.below hW2.size
        clear I
        simp only [List.foldl_cons, List.foldl_nil, List.setIfInBounds_toArray, List.set_cons_zero, List.set_cons_succ]
        clear ow3 ow4 ow5 ow11
        go_wp2
        try simp only [setCell_drawn]
        refine bodyPost_ret (by first | (simp [results, Try.results9, go_sem]; done) | (simp [results, Try.results9, go_sem]; rfl)) rfl ⟨?_, hW3⟩
        rfl
      · have t3_ := Lib.hid t3
        clear t3
        go_upto_region 2 with fail
        refine region_memo_f (B := W1.heap.size) (L := .val (.agg #[.int .i64 o1, .int .i64 o2]) :: .val (.agg #[.int .i64 a1, .int .i64 a2]) :: .val (.agg #[.int .i64 b1, .int .i64 b2]) :: .new 23 #[.int .i64 o1, .int .i64 o2, .int .i64 a1, .int .i64 a2, .int .i64 b1, .int .i64 b2] (some (3, 3)) :: .val (.bool true) :: .val (.bool true) :: .val (.agg #[.int .i64 a1, .int .i64 a2]) :: .val (.agg #[.int .i64 o1, .int .i64 o2]) :: .val (.bool true) :: .val (.bool true) :: .val (.bool true) :: .val (.agg #[.int .i64 b1, .int .i64 b2]) :: .val (.agg #[.int .i64 o1, .int .i64 o2]) :: .val (.bool true) :: .val (.bool true) :: []) (by kernel_rfl) (Nat.le_refl _) ((by exact trivial))
          ⟨fun a w R => ld_P (R.slot 3 rfl) (R.keep ow3 trivial) rfl rfl, fun a w R => ld_P (R.slot 4 rfl) (R.keep ow4 trivial) rfl rfl, fun a w R => ld_P (R.slot 5 rfl) (R.keep ow5 trivial) rfl rfl, fun a w R => bsP_3 (R.val 0) (R.val 1) (R.val 2), fun a w R => cl_n (enter_at Try.func11) (R.dep 3) (fun g hg => lawin3 t1_.out hg), fun a w R => mv (R.val 4), fun a w R => ld_P (R.slot 4 rfl) (R.keep ow4 trivial) rfl rfl, fun a w R => ld_P (R.slot 3 rfl) (R.keep ow3 trivial) rfl rfl, fun a w R => (e_neq_P (R.val 6) (R.val 7) ((fun w => (eq_Point _ _ _ _ w).trans (by rw [t2_.out])))), fun a w R => pickt (R.val 5) (R.val 8), fun a w R => mv (R.val 9), fun a w R => ld_P (R.slot 5 rfl) (R.keep ow5 trivial) rfl rfl, fun a w R => ld_P (R.slot 3 rfl) (R.keep ow3 trivial) rfl rfl, fun a w R => (e_neq_P (R.val 11) (R.val 12) ((fun w => (eq_Point _ _ _ _ w).trans (by rw [t3_.out])))), fun a w R => pickt (R.val 10) (R.val 13), trivial⟩ (fun act_ W2 I => ?_)
        obtain ⟨gb11, ew11, lw11, ow11⟩ := I.new 3 rfl rfl rfl
        rw [I.act [(8, .agg #[.int .i64 o1, .int .i64 o2]), (9, .agg #[.int .i64 a1, .int .i64 a2]), (10, .agg #[.int .i64 b1, .int .i64 b2]), (11, .slice (some ⟨gb11, 0, none⟩) 3 3), (12, .bool true), (13, .bool true), (14, .agg #[.int .i64 a1, .int .i64 a2]), (15, .agg #[.int .i64 o1, .int .i64 o2]), (16, .bool true), (17, .bool true), (18, .bool true), (19, .agg #[.int .i64 b1, .int .i64 b2]), (20, .agg #[.int .i64 o1, .int .i64 o2]), (21, .bool true), (22, .bool true)]
          ⟨I.val 0, I.val 1, I.val 2, ew11, I.val 4, I.val 5, I.val 6, I.val 7, I.val 8, I.val 9, I.val 10, I.val 11, I.val 12, I.val 13, I.val 14, trivial⟩ rfl]
        change W1.heap.size ≤ gb11 at lw11
        have sW2 : W1.heap.size ≤ W2.heap.size := I.below.size
        replace ow3 := I.keep ow3 trivial
        replace ow4 := I.keep ow4 trivial
        replace ow5 := I.keep ow5 trivial
        have hW2 : Below w.heap.size w W2 := then_ hW1 I.below hW1.size
        clear ew11
        clear I
        simp only [List.foldl_cons, List.foldl_nil, List.setIfInBounds_toArray, List.set_cons_zero, List.set_cons_succ]
        go_upto_region 3 with fail
        refine region_memo_f (B := W2.heap.size) (L := .val (.agg #[.int .i64 o1, .int .i64 o2]) :: .val (.agg #[.int .i64 a1, .int .i64 a2]) :: .val (.agg #[.int .i64 b1, .int .i64 b2]) :: .val (.int .i64 (rndR o1 o2 a1 a2 b1 b2)) :: .val (.int .i64 (rndR o1 o2 a1 a2 b1 b2)) :: []) (by kernel_rfl) (Nat.le_refl _) ((by exact trivial))
          ⟨fun a w R => ld_P (R.slot 3 rfl) (R.keep ow3 trivial) rfl rfl, fun a w R => ld_P (R.slot 4 rfl) (R.keep ow4 trivial) rfl rfl, fun a w R => ld_P (R.slot 5 rfl) (R.keep ow5 trivial) rfl rfl, fun a w R => cl_ttt (enter_at Try.func28) (R.val 0) (R.val 1) (R.val 2) (RAround_in (in3_iff.1 t1_.out).1 (in3_iff.1 t1_.out).2.1 (in3_iff.1 t1_.out).2.2 _), fun a w R => asg (R.val 3), trivial⟩ (fun act_ W3 I => ?_)
        rw [I.act [(23, .agg #[.int .i64 o1, .int .i64 o2]), (24, .agg #[.int .i64 a1, .int .i64 a2]), (25, .agg #[.int .i64 b1, .int .i64 b2]), (26, .int .i64 (rndR o1 o2 a1 a2 b1 b2)), (7, .int .i64 (rndR o1 o2 a1 a2 b1 b2))]
          ⟨I.val 0, I.val 1, I.val 2, I.val 3, I.val 4, trivial⟩ rfl]
        have sW3 : W2.heap.size ≤ W3.heap.size := I.below.size
        replace ow3 := I.keep ow3 trivial
        replace ow4 := I.keep ow4 trivial
        replace ow5 := I.keep ow5 trivial
        replace ow11 := I.keep ow11 trivial
        have hW3 : Below w.heap.size w W3 := then_ hW2 I.below hW2.size
        clear I
        simp only [List.foldl_cons, List.foldl_nil, List.setIfInBounds_toArray, List.set_cons_zero, List.set_cons_succ]
        go_upto_region 4 with fail
        refine region_memo_f (B := W3.heap.size) (L := .val (.bool true) :: .val (.bool true) :: .val (.agg #[.int .i64 o1, .int .i64 o2]) :: .val (.agg #[.int .i64 a1, .int .i64 a2]) :: .val (.agg #[.int .i64 b1, .int .i64 b2]) :: .val (.int .i64 (rndR o1 o2 a1 a2 b1 b2)) :: .val (.int .i64 (rndR o1 o2 a1 a2 b1 b2)) :: .val (.bool true) :: .val (.bool true) :: .val (.bool true) :: []) (by kernel_rfl) (Nat.le_refl _) ((by exact trivial))
          ⟨fun a w R => cl_0 (enter_at Try.func12)  (awake_any _), fun a w R => mv (R.val 0), fun a w R => ld_P (R.slot 3 rfl) (R.keep ow3 trivial) rfl rfl, fun a w R => ld_P (R.slot 4 rfl) (R.keep ow4 trivial) rfl rfl, fun a w R => ld_P (R.slot 5 rfl) (R.keep ow5 trivial) rfl rfl, fun a w R => cl_ttt (enter_at Try.func18) (R.val 2) (R.val 3) (R.val 4) (Around_is (rd_ref t1_.out t2_.out t3_.out) _), fun a w R => mv (R.slot 7 rfl), fun a w R => c_eql_tt (R.val 5) (R.val 6) (Try.underlying3) (by simp), fun a w R => pickt (R.val 1) (R.val 7), fun a w R => asg (R.val 8), trivial⟩ (fun act_ W4 I => ?_)
        rw [I.act [(27, .bool true), (28, .bool true), (29, .agg #[.int .i64 o1, .int .i64 o2]), (30, .agg #[.int .i64 a1, .int .i64 a2]), (31, .agg #[.int .i64 b1, .int .i64 b2]), (32, .int .i64 (rndR o1 o2 a1 a2 b1 b2)), (33, .int .i64 (rndR o1 o2 a1 a2 b1 b2)), (34, .bool true), (35, .bool true), (6, .bool true)]
          ⟨I.val 0, I.val 1, I.val 2, I.val 3, I.val 4, I.val 5, I.val 6, I.val 7, I.val 8, I.val 9, trivial⟩ rfl]
        have sW4 : W3.heap.size ≤ W4.heap.size := I.below.size
        replace ow3 := I.keep ow3 trivial
        replace ow4 := I.keep ow4 trivial
        replace ow5 := I.keep ow5 trivial
        replace ow11 := I.keep ow11 trivial
        have hW4 : Below w.heap.size w W4 := then_ hW3 I.below hW3.size
        clear I
        simp only [List.foldl_cons, List.foldl_nil, List.setIfInBounds_toArray, List.set_cons_zero, List.set_cons_succ]
        clear ow3 ow4 ow5 ow11
        go_wp2
        try simp only [setCell_drawn]
        refine bodyPost_ret (by first | (simp [results, Try.results9, go_sem]; done) | (simp [results, Try.results9, go_sem]; rfl)) rfl ⟨?_, hW4⟩
        rfl
  · have t1_ := Lib.hid t1
    clear t1
    go_upto_region 2 with fail
    refine region_memo_f (B := W1.heap.size) (L := .val (.agg #[.int .i64 o1, .int .i64 o2]) :: .val (.agg #[.int .i64 a1, .int .i64 a2]) :: .val (.agg #[.int .i64 b1, .int .i64 b2]) :: .new 23 #[.int .i64 o1, .int .i64 o2, .int .i64 a1, .int .i64 a2, .int .i64 b1, .int .i64 b2] (some (3, 3)) :: .val (.bool false) :: .val (.bool false) :: .skip :: .skip :: .skip :: .val (.bool false) :: .val (.bool false) :: .skip :: .skip :: .skip :: .val (.bool false) :: []) (by kernel_rfl) (Nat.le_refl _) ((by exact trivial))
      ⟨fun a w R => ld_P (R.slot 3 rfl) (R.keep ow3 trivial) rfl rfl, fun a w R => ld_P (R.slot 4 rfl) (R.keep ow4 trivial) rfl rfl, fun a w R => ld_P (R.slot 5 rfl) (R.keep ow5 trivial) rfl rfl, fun a w R => bsP_3 (R.val 0) (R.val 1) (R.val 2), fun a w R => cl_n (enter_at Try.func11) (R.dep 3) (fun g hg => lawin3 t1_.out hg), fun a w R => mv (R.val 4), fun a w R => True.intro, fun a w R => True.intro, fun a w R => True.intro, fun a w R => pickf (R.val 5) (R.goneS 8), fun a w R => mv (R.val 9), fun a w R => True.intro, fun a w R => True.intro, fun a w R => True.intro, fun a w R => pickf (R.val 10) (R.goneS 13), trivial⟩ (fun act_ W2 I => ?_)
    obtain ⟨gb11, ew11, lw11, ow11⟩ := I.new 3 rfl rfl rfl
    rw [I.act [(8, .agg #[.int .i64 o1, .int .i64 o2]), (9, .agg #[.int .i64 a1, .int .i64 a2]), (10, .agg #[.int .i64 b1, .int .i64 b2]), (11, .slice (some ⟨gb11, 0, none⟩) 3 3), (12, .bool false), (13, .bool false), (14, undef), (15, undef), (16, undef), (17, .bool false), (18, .bool false), (19, undef), (20, undef), (21, undef), (22, .bool false)]
      ⟨I.val 0, I.val 1, I.val 2, ew11, I.val 4, I.val 5, I.gone 6, I.gone 7, I.gone 8, I.val 9, I.val 10, I.gone 11, I.gone 12, I.gone 13, I.val 14, trivial⟩ rfl]
    change W1.heap.size ≤ gb11 at lw11
    have sW2 : W1.heap.size ≤ W2.heap.size := I.below.size
    replace ow3 := I.keep ow3 trivial
    replace ow4 := I.keep ow4 trivial
    replace ow5 := I.keep ow5 trivial
    have hW2 : Below w.heap.size w W2 := then_ hW1 I.below hW1.size
    clear ew11
    clear I
    simp only [List.foldl_cons, List.foldl_nil, List.setIfInBounds_toArray, List.set_cons_zero, List.set_cons_succ]
    go_upto_region 4 with fail
    refine region_memo_f (B := W2.heap.size) (L := .val (.bool true) :: .val (.bool true) :: .val (.agg #[.int .i64 o1, .int .i64 o2]) :: .val (.agg #[.int .i64 a1, .int .i64 a2]) :: .val (.agg #[.int .i64 b1, .int .i64 b2]) :: .val (.int .i64 0) :: .val (.int .i64 0) :: .val (.bool true) :: .val (.bool true) :: .val (.bool true) :: []) (by kernel_rfl) (Nat.le_refl _) ((by exact trivial))
      ⟨fun a w R => cl_0 (enter_at Try.func12)  (awake_any _), fun a w R => mv (R.val 0), fun a w R => ld_P (R.slot 3 rfl) (R.keep ow3 trivial) rfl rfl, fun a w R => ld_P (R.slot 4 rfl) (R.keep ow4 trivial) rfl rfl, fun a w R => ld_P (R.slot 5 rfl) (R.keep ow5 trivial) rfl rfl, fun a w R => cl_ttt (enter_at Try.func18) (R.val 2) (R.val 3) (R.val 4) (Around_is (rd_out1 t1_.out) _), fun a w R => mv (R.slot 7 rfl), fun a w R => c_eql_tt (R.val 5) (R.val 6) (Try.underlying3) (by decide), fun a w R => pickt (R.val 1) (R.val 7), fun a w R => asg (R.val 8), trivial⟩ (fun act_ W3 I => ?_)
    rw [I.act [(27, .bool true), (28, .bool true), (29, .agg #[.int .i64 o1, .int .i64 o2]), (30, .agg #[.int .i64 a1, .int .i64 a2]), (31, .agg #[.int .i64 b1, .int .i64 b2]), (32, .int .i64 0), (33, .int .i64 0), (34, .bool true), (35, .bool true), (6, .bool true)]
      ⟨I.val 0, I.val 1, I.val 2, I.val 3, I.val 4, I.val 5, I.val 6, I.val 7, I.val 8, I.val 9, trivial⟩ rfl]
    have sW3 : W2.heap.size ≤ W3.heap.size := I.below.size
    replace ow3 := I.keep ow3 trivial
    replace ow4 := I.keep ow4 trivial
    replace ow5 := I.keep ow5 trivial
    replace ow11 := I.keep ow11 trivial
    have hW3 : Below w.heap.size w W3 := then_ hW2 I.below hW2.size
    clear I
    simp only [List.foldl_cons, List.foldl_nil, List.setIfInBounds_toArray, List.set_cons_zero, List.set_cons_succ]
    clear ow3 ow4 ow5 ow11
    go_wp2
    try simp only [setCell_drawn]
    refine bodyPost_ret (by first | (simp [results, Try.results9, go_sem]; done) | (simp [results, Try.results9, go_sem]; rfl)) rfl ⟨?_, hW3⟩
    rfl

set_option maxRecDepth 100000 in
theorem lifted (os : Os) (started : os.Started) (H : Type) (enc : TypeId × Value → H) :
    ReturnsInHanded {} Try.checked os 9 .any (Rows.geomAroundSpec.pre6 enc Try.prog Try.f9 Rows.geomAroundRow.domain false) (Rows.geomAroundSpec.post enc Try.prog Try.f9 false true false false) := by
  refine returnsInHanded_of_change (C := Try.checked) own started (by kernel_rfl) Try.func9
    (ChangeSpec.witness6 (enc := enc) (C := Try.checked) false ⟨#[], #[.agg #[.int .i64 0, .int .i64 0], .agg #[.int .i64 0, .int .i64 0], .agg #[.int .i64 0, .int .i64 0]], []⟩ 8 (by kernel_rfl) (by kernel_rfl) (by kernel_rfl) (by kernel_rfl)) ?_
  intro W base args ds gs before hval0 hW hcnd _
  have hval : ∀ (j : Nat) t v, Try.f9.params[j]? = some t → args[j]? = some v → Value.okWide Try.prog W .any base t v := hval0
  have hW' := hW
  obtain ⟨p, q, hA0, hV, rfl, hfz, hnd⟩ := hW
  have hA : DataW.TrodAll enc Try.prog W 0 (fun _ => true) true Try.f9.params.toList args.toList ds p := hA0
  rw [Try.params9] at hA hval
  obtain ⟨v0, vs0, d0, ds0, p0, q0, hargs, rfl, rfl, h0, r0⟩ := trodAll_cons hA
  obtain ⟨v1, vs1, d1, ds1, p1, q1, rfl, rfl, rfl, h1, r1⟩ := trodAll_cons r0
  obtain ⟨v2, vs2, d2, ds2, p2, q2, rfl, rfl, rfl, h2, r2⟩ := trodAll_cons r1
  obtain ⟨rfl, rfl, rfl⟩ := trodAll_nil r2
  obtain rfl : args = #[v0, v1, v2] := by cases args; simp_all
  obtain ⟨rfl, rfl⟩ := trodVars_none hV
  obtain ⟨o1, o2, rfl, rfl, fo1, fo2⟩ := open_pt (hval 0 23 v0 rfl rfl) h0
  obtain ⟨a1, a2, rfl, rfl, fa1, fa2⟩ := open_pt (hval 1 23 v1 rfl rfl) h1
  obtain ⟨b1, b2, rfl, rfl, fb1, fb2⟩ := open_pt (hval 2 23 v2 rfl rfl) h2
  clear hA0 hval0
  refine (walk o1 o2 a1 a2 b1 b2 W fo1 fo2 fa1 fa2 fb1 fb2).mono fun e W' ⟨he, bel⟩ => ?_
  subst he
  exact ⟨_, rfl, _, _, _, [], _, [], hW', trodAll_mk1 (shut_bool Try.underlying4 _), (trodAll_cons_mk (Below.trod laidOut (by kernel_rfl) (of_decide_eq_true (by kernel_rfl)) h0 bel (fun x hx => by cases hx)) (trodAll_cons_mk (Below.trod laidOut (by kernel_rfl) (of_decide_eq_true (by kernel_rfl)) h1 bel (fun x hx => by cases hx)) (trodAll_cons_mk (Below.trod laidOut (by kernel_rfl) (of_decide_eq_true (by kernel_rfl)) h2 bel (fun x hx => by cases hx)) trodAll_mk0))), rfl, bel.frame _, fun h => by cases h⟩

theorem over : Rows.geomAroundRow.holds Try.pinned (OpenSpec.ofChange Rows.geomAroundSpec) :=
  OpenClaim.holds_of_wide 9 Try.f9 rfl rfl rfl rfl rfl rfl rfl ⟨rfl, rfl, rfl, rfl, rfl⟩ rfl rfl rfl rfl rfl (by kernel_rfl) Try.func9 (by kernel_rfl)
    (of_decide_eq_true (by kernel_rfl)) (by unfold Func.isWrapper; first | (rw [if_pos (by decide +kernel)]; kernel_rfl) | (rw [if_neg (by decide +kernel)]; exact ⟨rfl, rfl⟩))
    (fun os started H enc _ => lifted os started H enc)

/-- THE STATEMENT -/
theorem proved : Rows.GeomAroundSaid := over
#print axioms proved
end Go.Proofs.Ytlifghecgpibfaa.geomAround
