/- GeomTurns: whether any points are in range, their order, and how they turn, is the document's; for any three points. -/
import Derived.Test.YtlifghecgpibfaaRows
import Derived.Test.YtlifghecgpibfaaBase
import Derived.Test.YtlifghecgpibfaaGeoH
import Derived.Test.YtlifghecgpibfaaPts
import Derived.Test.YtlifghecgpibfaaGeoF
import Derived.WalkKit
import Derived.ProofKit
import Derived.OpenShut
import Derived.ShutString
import Derived.ChangeOld
import Derived.Below
import Derived.SliceStrings
namespace Go.Proofs.Ytlifghecgpibfaa.geomTurns
open Go.ChangeShapes Go.WideShapes Go.ChangeAt Go.RowKit
open Go.ChangeMaps (open_string shut_string)
set_option linter.unusedVariables false

theorem RIn_is {x y : Int} {b : Bool} (h : inB x y = b) (w : World) : Calls Try.prog 23 #[.agg #[.int .i64 x, .int .i64 y]] w fun e w' => e = .returned (.bool b) ∧ Below w.heap.size w w' := h ▸ RIn_any x y w
theorem RLess_is {a1 a2 b1 b2 : Int} {b : Bool} (h : lsB a1 a2 b1 b2 = b) (w : World) : Calls Try.prog 25 #[.agg #[.int .i64 a1, .int .i64 a2], .agg #[.int .i64 b1, .int .i64 b2]] w fun e w' => e = .returned (.bool b) ∧ Below w.heap.size w w' := h ▸ RLess_any a1 a2 b1 b2 w

theorem own : ownKnob Try.prog.godebug = none := by kernel_rfl
theorem laidOut : laidOutB Try.prog = true := by kernel_rfl

set_option maxHeartbeats 16000000 in
set_option maxRecDepth 20000 in
theorem walk (a1 a2 : Int) (b1 b2 : Int) (c1 c2 : Int) (w : World) (fa1 : (Lit.int .i64 a1).wf = true) (fa2 : (Lit.int .i64 a2).wf = true) (fb1 : (Lit.int .i64 b1).wf = true) (fb2 : (Lit.int .i64 b2).wf = true) (fc1 : (Lit.int .i64 c1).wf = true) (fc2 : (Lit.int .i64 c2).wf = true) :
    Calls Try.prog 6 #[.agg #[.int .i64 a1, .int .i64 a2], .agg #[.int .i64 b1, .int .i64 b2], .agg #[.int .i64 c1, .int .i64 c2]] w fun e w' => e = .returned (.bool true) ∧ Below w.heap.size w w' := by
  go_enter Try.func6, Try.ntmps6
  go_upto_region 1 with fail
  go_name_world W0 hW0e
  have ow3 : Own W0 w.heap.size 23 #[.int .i64 a1, .int .i64 a2] := hW0e ▸ (by repeat' (first | (with_reducible assumption) | (with_reducible refine Own.drawnN ?_ _) | (with_reducible refine Own.drawn ?_) | (with_reducible refine Own.made_at ?_; first | rfl | (simp; done) | omega | (simp; omega)) | (with_reducible refine Own.more ?_ _) | (with_reducible refine Own.apart ?_ ?_ _ _; rotate_left; first | omega | (simp; done) | (simp; omega)) | (refine Own.put ?_ _ _)))
  have ow4 : Own W0 (w.heap.size + 1) 23 #[.int .i64 b1, .int .i64 b2] := hW0e ▸ (by repeat' (first | (with_reducible assumption) | (with_reducible refine Own.drawnN ?_ _) | (with_reducible refine Own.drawn ?_) | (with_reducible refine Own.made_at ?_; first | rfl | (simp; done) | omega | (simp; omega)) | (with_reducible refine Own.more ?_ _) | (with_reducible refine Own.apart ?_ ?_ _ _; rotate_left; first | omega | (simp; done) | (simp; omega)) | (refine Own.put ?_ _ _)))
  have ow5 : Own W0 (w.heap.size + 1 + 1) 23 #[.int .i64 c1, .int .i64 c2] := hW0e ▸ (by repeat' (first | (with_reducible assumption) | (with_reducible refine Own.drawnN ?_ _) | (with_reducible refine Own.drawn ?_) | (with_reducible refine Own.made_at ?_; first | rfl | (simp; done) | omega | (simp; omega)) | (with_reducible refine Own.more ?_ _) | (with_reducible refine Own.apart ?_ ?_ _ _; rotate_left; first | omega | (simp; done) | (simp; omega)) | (refine Own.put ?_ _ _)))
  have hW0 : Below w.heap.size w W0 := hW0e ▸ (by repeat' (first | (with_reducible exact Below.refl _ _) | (with_reducible assumption) | (with_reducible refine below_drewN ?_ _) | (with_reducible refine Below.drew ?_) | (with_reducible refine Below.alloc ?_ ?_ _) | (with_reducible refine Below.setCell ?_ ?_ _) | (with_reducible refine then_ ?_ (by with_reducible assumption) ?_) | (with_reducible exact Nat.le_refl _) | (with_reducible exact Nat.le_succ _) | (with_reducible exact Nat.le_succ_of_le (by with_reducible assumption)) | omega | (simp; done) | (simp; omega) | (exact Nat.le_succ _) | (exact Nat.le_succ_of_le (by with_reducible assumption))))
  clear hW0e
  have z0 := ow5.in_
  go_upto_region 1 with fail
  refine region_memo_f (B := W0.heap.size) (L := .val (.int .i64 0) :: []) (by kernel_rfl) (Nat.le_refl _) ((by exact trivial))
    ⟨fun a w R => asc, trivial⟩ (fun act_ W1 I => ?_)
  rw [I.act [(7, .int .i64 0)]
    ⟨I.val 0, trivial⟩ rfl]
  have sW1 : W0.heap.size ≤ W1.heap.size := I.below.size
  replace ow3 := I.keep ow3 trivial
  replace ow4 := I.keep ow4 trivial
  replace ow5 := I.keep ow5 trivial
  have hW1 : Below w.heap.size w W1 := then_ hW0 I.below hW0.size
  clear I
  simp only [List.foldl_cons, List.foldl_nil, List.setIfInBounds_toArray, List.set_cons_zero, List.set_cons_succ]
  rcases Bool.eq_false_or_eq_true (in3 a1 a2 b1 b2 c1 c2) with t1 | t1
  · have t1_ := Lib.hid t1
    clear t1
    go_upto_region 2 with fail
    refine region_memo_f (B := W1.heap.size) (L := .val (.agg #[.int .i64 a1, .int .i64 a2]) :: .val (.agg #[.int .i64 b1, .int .i64 b2]) :: .val (.agg #[.int .i64 c1, .int .i64 c2]) :: .new 23 #[.int .i64 a1, .int .i64 a2, .int .i64 b1, .int .i64 b2, .int .i64 c1, .int .i64 c2] (some (3, 3)) :: .val (.bool true) :: []) (by kernel_rfl) (Nat.le_refl _) ((by exact trivial))
      ⟨fun a w R => ld_P (R.slot 3 rfl) (R.keep ow3 trivial) rfl rfl, fun a w R => ld_P (R.slot 4 rfl) (R.keep ow4 trivial) rfl rfl, fun a w R => ld_P (R.slot 5 rfl) (R.keep ow5 trivial) rfl rfl, fun a w R => bsP_3 (R.val 0) (R.val 1) (R.val 2), fun a w R => cl_n (enter_at Try.func11) (R.dep 3) (fun g hg => lawin3 t1_.out hg), trivial⟩ (fun act_ W2 I => ?_)
    obtain ⟨gb11, ew11, lw11, ow11⟩ := I.new 3 rfl rfl rfl
    rw [I.act [(8, .agg #[.int .i64 a1, .int .i64 a2]), (9, .agg #[.int .i64 b1, .int .i64 b2]), (10, .agg #[.int .i64 c1, .int .i64 c2]), (11, .slice (some ⟨gb11, 0, none⟩) 3 3), (12, .bool true)]
      ⟨I.val 0, I.val 1, I.val 2, ew11, I.val 4, trivial⟩ rfl]
    change W1.heap.size ≤ gb11 at lw11
    have sW2 : W1.heap.size ≤ W2.heap.size := I.below.size
    replace ow3 := I.keep ow3 trivial
    replace ow4 := I.keep ow4 trivial
    replace ow5 := I.keep ow5 trivial
    have hW2 : Below w.heap.size w W2 := then_ hW1 I.below hW1.size
    clear ew11
    clear I
    simp only [List.foldl_cons, List.foldl_nil, List.setIfInBounds_toArray, List.set_cons_zero, List.set_cons_succ]
    go_upto_region 3 with fail
    refine region_memo_f (B := W2.heap.size) (L := .val (.agg #[.int .i64 a1, .int .i64 a2]) :: .val (.agg #[.int .i64 b1, .int .i64 b2]) :: .val (.agg #[.int .i64 c1, .int .i64 c2]) :: .val (.int .i64 (tn a1 a2 b1 b2 c1 c2)) :: .val (.int .i64 (tn a1 a2 b1 b2 c1 c2)) :: []) (by kernel_rfl) (Nat.le_refl _) ((by exact trivial))
      ⟨fun a w R => ld_P (R.slot 3 rfl) (R.keep ow3 trivial) rfl rfl, fun a w R => ld_P (R.slot 4 rfl) (R.keep ow4 trivial) rfl rfl, fun a w R => ld_P (R.slot 5 rfl) (R.keep ow5 trivial) rfl rfl, fun a w R => cl_ttt (enter_at Try.func21) (R.val 0) (R.val 1) (R.val 2) (RTurn_in (in3_iff.1 t1_.out).1 (in3_iff.1 t1_.out).2.1 (in3_iff.1 t1_.out).2.2 _), fun a w R => asg (R.val 3), trivial⟩ (fun act_ W3 I => ?_)
    rw [I.act [(13, .agg #[.int .i64 a1, .int .i64 a2]), (14, .agg #[.int .i64 b1, .int .i64 b2]), (15, .agg #[.int .i64 c1, .int .i64 c2]), (16, .int .i64 (tn a1 a2 b1 b2 c1 c2)), (7, .int .i64 (tn a1 a2 b1 b2 c1 c2))]
      ⟨I.val 0, I.val 1, I.val 2, I.val 3, I.val 4, trivial⟩ rfl]
    have sW3 : W2.heap.size ≤ W3.heap.size := I.below.size
    replace ow3 := I.keep ow3 trivial
    replace ow4 := I.keep ow4 trivial
    replace ow5 := I.keep ow5 trivial
    replace ow11 := I.keep ow11 trivial
    have hW3 : Below w.heap.size w W3 := then_ hW2 I.below hW2.size
    clear I
    simp only [List.foldl_cons, List.foldl_nil, List.setIfInBounds_toArray, List.set_cons_zero, List.set_cons_succ]
    rcases Bool.eq_false_or_eq_true (inB a1 a2) with t2 | t2
    · have t2_ := Lib.hid t2
      clear t2
      rcases Bool.eq_false_or_eq_true (lsB a1 a2 b1 b2) with t3 | t3
      · have t3_ := Lib.hid t3
        clear t3
        go_upto_region 4 with fail
        refine region_memo (B := W3.heap.size) (L := .val (.bool true) :: .val (.bool true) :: .val (.agg #[.int .i64 a1, .int .i64 a2]) :: .val (.bool true) :: .val (.agg #[.int .i64 a1, .int .i64 a2]) :: .val (.bool true) :: .val (.bool true) :: .val (.bool true) :: .val (.bool true) :: .val (.agg #[.int .i64 a1, .int .i64 a2]) :: .val (.agg #[.int .i64 b1, .int .i64 b2]) :: .val (.bool true) :: .val (.agg #[.int .i64 a1, .int .i64 a2]) :: .val (.agg #[.int .i64 b1, .int .i64 b2]) :: .val (.bool true) :: .val (.bool true) :: .val (.bool true) :: .val (.bool true) :: .val (.agg #[.int .i64 a1, .int .i64 a2]) :: .val (.agg #[.int .i64 b1, .int .i64 b2]) :: .val (.agg #[.int .i64 c1, .int .i64 c2]) :: .val (.int .i64 (tn a1 a2 b1 b2 c1 c2)) :: .val (.int .i64 (tn a1 a2 b1 b2 c1 c2)) :: .val (.bool true) :: .val (.bool true) :: .val (.bool true) :: []) (by kernel_rfl) (by kernel_rfl) (Nat.le_refl _) ((by exact trivial))
          ⟨fun a w R => cl_0 (enter_at Try.func12)  (awake_any _), fun a w R => mv (R.val 0), fun a w R => ld_P (R.slot 3 rfl) (R.keep ow3.drawn trivial) rfl rfl, fun a w R => cl_t (enter_at Try.func22) (R.val 2) (In_is t2_.out _), fun a w R => ld_P (R.slot 3 rfl) (R.keep ow3.drawn trivial) rfl rfl, fun a w R => cl_t (enter_at Try.func23) (R.val 4) (RIn_is t2_.out _), fun a w R => cb_eql_tt (R.val 3) (R.val 5) rfl, fun a w R => pickt (R.val 1) (R.val 6), fun a w R => mv (R.val 7), fun a w R => ld_P (R.slot 3 rfl) (R.keep ow3.drawn trivial) rfl rfl, fun a w R => ld_P (R.slot 4 rfl) (R.keep ow4.drawn trivial) rfl rfl, fun a w R => cl_tt (enter_at Try.func24) (R.val 9) (R.val 10) (Less_is t3_.out _), fun a w R => ld_P (R.slot 3 rfl) (R.keep ow3.drawn trivial) rfl rfl, fun a w R => ld_P (R.slot 4 rfl) (R.keep ow4.drawn trivial) rfl rfl, fun a w R => cl_tt (enter_at Try.func25) (R.val 12) (R.val 13) (RLess_is t3_.out _), fun a w R => cb_eql_tt (R.val 11) (R.val 14) rfl, fun a w R => pickt (R.val 8) (R.val 15), fun a w R => mv (R.val 16), fun a w R => ld_P (R.slot 3 rfl) (R.keep ow3.drawn trivial) rfl rfl, fun a w R => ld_P (R.slot 4 rfl) (R.keep ow4.drawn trivial) rfl rfl, fun a w R => ld_P (R.slot 5 rfl) (R.keep ow5.drawn trivial) rfl rfl, fun a w R => cl_ttt (enter_at Try.func13) (R.val 18) (R.val 19) (R.val 20) (Turn_in t1_.out _), fun a w R => mv (R.slot 7 rfl), fun a w R => c_eql_tt (R.val 21) (R.val 22) (Try.underlying3) (by simp), fun a w R => pickt (R.val 17) (R.val 23), fun a w R => asg (R.val 24), trivial⟩ (fun act_ W4 I => ?_)
        rw [I.act [(17, .bool true), (18, .bool true), (19, .agg #[.int .i64 a1, .int .i64 a2]), (20, .bool true), (21, .agg #[.int .i64 a1, .int .i64 a2]), (22, .bool true), (23, .bool true), (24, .bool true), (25, .bool true), (26, .agg #[.int .i64 a1, .int .i64 a2]), (27, .agg #[.int .i64 b1, .int .i64 b2]), (28, .bool true), (29, .agg #[.int .i64 a1, .int .i64 a2]), (30, .agg #[.int .i64 b1, .int .i64 b2]), (31, .bool true), (32, .bool true), (33, .bool true), (34, .bool true), (35, .agg #[.int .i64 a1, .int .i64 a2]), (36, .agg #[.int .i64 b1, .int .i64 b2]), (37, .agg #[.int .i64 c1, .int .i64 c2]), (38, .int .i64 (tn a1 a2 b1 b2 c1 c2)), (39, .int .i64 (tn a1 a2 b1 b2 c1 c2)), (40, .bool true), (41, .bool true), (6, .bool true)]
          ⟨I.val 0, I.val 1, I.val 2, I.val 3, I.val 4, I.val 5, I.val 6, I.val 7, I.val 8, I.val 9, I.val 10, I.val 11, I.val 12, I.val 13, I.val 14, I.val 15, I.val 16, I.val 17, I.val 18, I.val 19, I.val 20, I.val 21, I.val 22, I.val 23, I.val 24, I.val 25, trivial⟩ rfl]
        have sW4 : W3.heap.size ≤ W4.heap.size := I.below.size
        replace ow3 := I.keep ow3.drawn trivial
        replace ow4 := I.keep ow4.drawn trivial
        replace ow5 := I.keep ow5.drawn trivial
        replace ow11 := I.keep ow11.drawn trivial
        have hW4 : Below w.heap.size w W4 := then_ hW3.drew I.below hW3.size
        clear I
        simp only [List.foldl_cons, List.foldl_nil, List.setIfInBounds_toArray, List.set_cons_zero, List.set_cons_succ]
        clear ow3 ow4 ow5 ow11
        go_wp2
        try simp only [setCell_drawn]
        refine bodyPost_ret (by first | (simp [results, Try.results6, go_sem]; done) | (simp [results, Try.results6, go_sem]; rfl)) rfl ⟨?_, hW4⟩
        rfl
      · have t3_ := Lib.hid t3
        clear t3
        go_upto_region 4 with fail
        refine region_memo (B := W3.heap.size) (L := .val (.bool true) :: .val (.bool true) :: .val (.agg #[.int .i64 a1, .int .i64 a2]) :: .val (.bool true) :: .val (.agg #[.int .i64 a1, .int .i64 a2]) :: .val (.bool true) :: .val (.bool true) :: .val (.bool true) :: .val (.bool true) :: .val (.agg #[.int .i64 a1, .int .i64 a2]) :: .val (.agg #[.int .i64 b1, .int .i64 b2]) :: .val (.bool false) :: .val (.agg #[.int .i64 a1, .int .i64 a2]) :: .val (.agg #[.int .i64 b1, .int .i64 b2]) :: .val (.bool false) :: .val (.bool true) :: .val (.bool true) :: .val (.bool true) :: .val (.agg #[.int .i64 a1, .int .i64 a2]) :: .val (.agg #[.int .i64 b1, .int .i64 b2]) :: .val (.agg #[.int .i64 c1, .int .i64 c2]) :: .val (.int .i64 (tn a1 a2 b1 b2 c1 c2)) :: .val (.int .i64 (tn a1 a2 b1 b2 c1 c2)) :: .val (.bool true) :: .val (.bool true) :: .val (.bool true) :: []) (by kernel_rfl) (by kernel_rfl) (Nat.le_refl _) ((by exact trivial))
          ⟨fun a w R => cl_0 (enter_at Try.func12)  (awake_any _), fun a w R => mv (R.val 0), fun a w R => ld_P (R.slot 3 rfl) (R.keep ow3.drawn trivial) rfl rfl, fun a w R => cl_t (enter_at Try.func22) (R.val 2) (In_is t2_.out _), fun a w R => ld_P (R.slot 3 rfl) (R.keep ow3.drawn trivial) rfl rfl, fun a w R => cl_t (enter_at Try.func23) (R.val 4) (RIn_is t2_.out _), fun a w R => cb_eql_tt (R.val 3) (R.val 5) rfl, fun a w R => pickt (R.val 1) (R.val 6), fun a w R => mv (R.val 7), fun a w R => ld_P (R.slot 3 rfl) (R.keep ow3.drawn trivial) rfl rfl, fun a w R => ld_P (R.slot 4 rfl) (R.keep ow4.drawn trivial) rfl rfl, fun a w R => cl_tt (enter_at Try.func24) (R.val 9) (R.val 10) (Less_is t3_.out _), fun a w R => ld_P (R.slot 3 rfl) (R.keep ow3.drawn trivial) rfl rfl, fun a w R => ld_P (R.slot 4 rfl) (R.keep ow4.drawn trivial) rfl rfl, fun a w R => cl_tt (enter_at Try.func25) (R.val 12) (R.val 13) (RLess_is t3_.out _), fun a w R => cb_eql_tt (R.val 11) (R.val 14) rfl, fun a w R => pickt (R.val 8) (R.val 15), fun a w R => mv (R.val 16), fun a w R => ld_P (R.slot 3 rfl) (R.keep ow3.drawn trivial) rfl rfl, fun a w R => ld_P (R.slot 4 rfl) (R.keep ow4.drawn trivial) rfl rfl, fun a w R => ld_P (R.slot 5 rfl) (R.keep ow5.drawn trivial) rfl rfl, fun a w R => cl_ttt (enter_at Try.func13) (R.val 18) (R.val 19) (R.val 20) (Turn_in t1_.out _), fun a w R => mv (R.slot 7 rfl), fun a w R => c_eql_tt (R.val 21) (R.val 22) (Try.underlying3) (by simp), fun a w R => pickt (R.val 17) (R.val 23), fun a w R => asg (R.val 24), trivial⟩ (fun act_ W4 I => ?_)
        rw [I.act [(17, .bool true), (18, .bool true), (19, .agg #[.int .i64 a1, .int .i64 a2]), (20, .bool true), (21, .agg #[.int .i64 a1, .int .i64 a2]), (22, .bool true), (23, .bool true), (24, .bool true), (25, .bool true), (26, .agg #[.int .i64 a1, .int .i64 a2]), (27, .agg #[.int .i64 b1, .int .i64 b2]), (28, .bool false), (29, .agg #[.int .i64 a1, .int .i64 a2]), (30, .agg #[.int .i64 b1, .int .i64 b2]), (31, .bool false), (32, .bool true), (33, .bool true), (34, .bool true), (35, .agg #[.int .i64 a1, .int .i64 a2]), (36, .agg #[.int .i64 b1, .int .i64 b2]), (37, .agg #[.int .i64 c1, .int .i64 c2]), (38, .int .i64 (tn a1 a2 b1 b2 c1 c2)), (39, .int .i64 (tn a1 a2 b1 b2 c1 c2)), (40, .bool true), (41, .bool true), (6, .bool true)]
          ⟨I.val 0, I.val 1, I.val 2, I.val 3, I.val 4, I.val 5, I.val 6, I.val 7, I.val 8, I.val 9, I.val 10, I.val 11, I.val 12, I.val 13, I.val 14, I.val 15, I.val 16, I.val 17, I.val 18, I.val 19, I.val 20, I.val 21, I.val 22, I.val 23, I.val 24, I.val 25, trivial⟩ rfl]
        have sW4 : W3.heap.size ≤ W4.heap.size := I.below.size
        replace ow3 := I.keep ow3.drawn trivial
        replace ow4 := I.keep ow4.drawn trivial
        replace ow5 := I.keep ow5.drawn trivial
        replace ow11 := I.keep ow11.drawn trivial
        have hW4 : Below w.heap.size w W4 := then_ hW3.drew I.below hW3.size
        clear I
        simp only [List.foldl_cons, List.foldl_nil, List.setIfInBounds_toArray, List.set_cons_zero, List.set_cons_succ]
        clear ow3 ow4 ow5 ow11
        go_wp2
        try simp only [setCell_drawn]
        refine bodyPost_ret (by first | (simp [results, Try.results6, go_sem]; done) | (simp [results, Try.results6, go_sem]; rfl)) rfl ⟨?_, hW4⟩
        rfl
    · have t2_ := Lib.hid t2
      clear t2
      rcases Bool.eq_false_or_eq_true (lsB a1 a2 b1 b2) with t4 | t4
      · have t4_ := Lib.hid t4
        clear t4
        go_upto_region 4 with fail
        refine region_memo (B := W3.heap.size) (L := .val (.bool true) :: .val (.bool true) :: .val (.agg #[.int .i64 a1, .int .i64 a2]) :: .val (.bool false) :: .val (.agg #[.int .i64 a1, .int .i64 a2]) :: .val (.bool false) :: .val (.bool true) :: .val (.bool true) :: .val (.bool true) :: .val (.agg #[.int .i64 a1, .int .i64 a2]) :: .val (.agg #[.int .i64 b1, .int .i64 b2]) :: .val (.bool true) :: .val (.agg #[.int .i64 a1, .int .i64 a2]) :: .val (.agg #[.int .i64 b1, .int .i64 b2]) :: .val (.bool true) :: .val (.bool true) :: .val (.bool true) :: .val (.bool true) :: .val (.agg #[.int .i64 a1, .int .i64 a2]) :: .val (.agg #[.int .i64 b1, .int .i64 b2]) :: .val (.agg #[.int .i64 c1, .int .i64 c2]) :: .val (.int .i64 (tn a1 a2 b1 b2 c1 c2)) :: .val (.int .i64 (tn a1 a2 b1 b2 c1 c2)) :: .val (.bool true) :: .val (.bool true) :: .val (.bool true) :: []) (by kernel_rfl) (by kernel_rfl) (Nat.le_refl _) ((by exact trivial))
          ⟨fun a w R => cl_0 (enter_at Try.func12)  (awake_any _), fun a w R => mv (R.val 0), fun a w R => ld_P (R.slot 3 rfl) (R.keep ow3.drawn trivial) rfl rfl, fun a w R => cl_t (enter_at Try.func22) (R.val 2) (In_is t2_.out _), fun a w R => ld_P (R.slot 3 rfl) (R.keep ow3.drawn trivial) rfl rfl, fun a w R => cl_t (enter_at Try.func23) (R.val 4) (RIn_is t2_.out _), fun a w R => cb_eql_tt (R.val 3) (R.val 5) rfl, fun a w R => pickt (R.val 1) (R.val 6), fun a w R => mv (R.val 7), fun a w R => ld_P (R.slot 3 rfl) (R.keep ow3.drawn trivial) rfl rfl, fun a w R => ld_P (R.slot 4 rfl) (R.keep ow4.drawn trivial) rfl rfl, fun a w R => cl_tt (enter_at Try.func24) (R.val 9) (R.val 10) (Less_is t4_.out _), fun a w R => ld_P (R.slot 3 rfl) (R.keep ow3.drawn trivial) rfl rfl, fun a w R => ld_P (R.slot 4 rfl) (R.keep ow4.drawn trivial) rfl rfl, fun a w R => cl_tt (enter_at Try.func25) (R.val 12) (R.val 13) (RLess_is t4_.out _), fun a w R => cb_eql_tt (R.val 11) (R.val 14) rfl, fun a w R => pickt (R.val 8) (R.val 15), fun a w R => mv (R.val 16), fun a w R => ld_P (R.slot 3 rfl) (R.keep ow3.drawn trivial) rfl rfl, fun a w R => ld_P (R.slot 4 rfl) (R.keep ow4.drawn trivial) rfl rfl, fun a w R => ld_P (R.slot 5 rfl) (R.keep ow5.drawn trivial) rfl rfl, fun a w R => cl_ttt (enter_at Try.func13) (R.val 18) (R.val 19) (R.val 20) (Turn_in t1_.out _), fun a w R => mv (R.slot 7 rfl), fun a w R => c_eql_tt (R.val 21) (R.val 22) (Try.underlying3) (by simp), fun a w R => pickt (R.val 17) (R.val 23), fun a w R => asg (R.val 24), trivial⟩ (fun act_ W4 I => ?_)
        rw [I.act [(17, .bool true), (18, .bool true), (19, .agg #[.int .i64 a1, .int .i64 a2]), (20, .bool false), (21, .agg #[.int .i64 a1, .int .i64 a2]), (22, .bool false), (23, .bool true), (24, .bool true), (25, .bool true), (26, .agg #[.int .i64 a1, .int .i64 a2]), (27, .agg #[.int .i64 b1, .int .i64 b2]), (28, .bool true), (29, .agg #[.int .i64 a1, .int .i64 a2]), (30, .agg #[.int .i64 b1, .int .i64 b2]), (31, .bool true), (32, .bool true), (33, .bool true), (34, .bool true), (35, .agg #[.int .i64 a1, .int .i64 a2]), (36, .agg #[.int .i64 b1, .int .i64 b2]), (37, .agg #[.int .i64 c1, .int .i64 c2]), (38, .int .i64 (tn a1 a2 b1 b2 c1 c2)), (39, .int .i64 (tn a1 a2 b1 b2 c1 c2)), (40, .bool true), (41, .bool true), (6, .bool true)]
          ⟨I.val 0, I.val 1, I.val 2, I.val 3, I.val 4, I.val 5, I.val 6, I.val 7, I.val 8, I.val 9, I.val 10, I.val 11, I.val 12, I.val 13, I.val 14, I.val 15, I.val 16, I.val 17, I.val 18, I.val 19, I.val 20, I.val 21, I.val 22, I.val 23, I.val 24, I.val 25, trivial⟩ rfl]
        have sW4 : W3.heap.size ≤ W4.heap.size := I.below.size
        replace ow3 := I.keep ow3.drawn trivial
        replace ow4 := I.keep ow4.drawn trivial
        replace ow5 := I.keep ow5.drawn trivial
        replace ow11 := I.keep ow11.drawn trivial
        have hW4 : Below w.heap.size w W4 := then_ hW3.drew I.below hW3.size
        clear I
        simp only [List.foldl_cons, List.foldl_nil, List.setIfInBounds_toArray, List.set_cons_zero, List.set_cons_succ]
        clear ow3 ow4 ow5 ow11
        go_wp2
        try simp only [setCell_drawn]
        refine bodyPost_ret (by first | (simp [results, Try.results6, go_sem]; done) | (simp [results, Try.results6, go_sem]; rfl)) rfl ⟨?_, hW4⟩
        rfl
      · have t4_ := Lib.hid t4
        clear t4
        go_upto_region 4 with fail
        refine region_memo (B := W3.heap.size) (L := .val (.bool true) :: .val (.bool true) :: .val (.agg #[.int .i64 a1, .int .i64 a2]) :: .val (.bool false) :: .val (.agg #[.int .i64 a1, .int .i64 a2]) :: .val (.bool false) :: .val (.bool true) :: .val (.bool true) :: .val (.bool true) :: .val (.agg #[.int .i64 a1, .int .i64 a2]) :: .val (.agg #[.int .i64 b1, .int .i64 b2]) :: .val (.bool false) :: .val (.agg #[.int .i64 a1, .int .i64 a2]) :: .val (.agg #[.int .i64 b1, .int .i64 b2]) :: .val (.bool false) :: .val (.bool true) :: .val (.bool true) :: .val (.bool true) :: .val (.agg #[.int .i64 a1, .int .i64 a2]) :: .val (.agg #[.int .i64 b1, .int .i64 b2]) :: .val (.agg #[.int .i64 c1, .int .i64 c2]) :: .val (.int .i64 (tn a1 a2 b1 b2 c1 c2)) :: .val (.int .i64 (tn a1 a2 b1 b2 c1 c2)) :: .val (.bool true) :: .val (.bool true) :: .val (.bool true) :: []) (by kernel_rfl) (by kernel_rfl) (Nat.le_refl _) ((by exact trivial))
          ⟨fun a w R => cl_0 (enter_at Try.func12)  (awake_any _), fun a w R => mv (R.val 0), fun a w R => ld_P (R.slot 3 rfl) (R.keep ow3.drawn trivial) rfl rfl, fun a w R => cl_t (enter_at Try.func22) (R.val 2) (In_is t2_.out _), fun a w R => ld_P (R.slot 3 rfl) (R.keep ow3.drawn trivial) rfl rfl, fun a w R => cl_t (enter_at Try.func23) (R.val 4) (RIn_is t2_.out _), fun a w R => cb_eql_tt (R.val 3) (R.val 5) rfl, fun a w R => pickt (R.val 1) (R.val 6), fun a w R => mv (R.val 7), fun a w R => ld_P (R.slot 3 rfl) (R.keep ow3.drawn trivial) rfl rfl, fun a w R => ld_P (R.slot 4 rfl) (R.keep ow4.drawn trivial) rfl rfl, fun a w R => cl_tt (enter_at Try.func24) (R.val 9) (R.val 10) (Less_is t4_.out _), fun a w R => ld_P (R.slot 3 rfl) (R.keep ow3.drawn trivial) rfl rfl, fun a w R => ld_P (R.slot 4 rfl) (R.keep ow4.drawn trivial) rfl rfl, fun a w R => cl_tt (enter_at Try.func25) (R.val 12) (R.val 13) (RLess_is t4_.out _), fun a w R => cb_eql_tt (R.val 11) (R.val 14) rfl, fun a w R => pickt (R.val 8) (R.val 15), fun a w R => mv (R.val 16), fun a w R => ld_P (R.slot 3 rfl) (R.keep ow3.drawn trivial) rfl rfl, fun a w R => ld_P (R.slot 4 rfl) (R.keep ow4.drawn trivial) rfl rfl, fun a w R => ld_P (R.slot 5 rfl) (R.keep ow5.drawn trivial) rfl rfl, fun a w R => cl_ttt (enter_at Try.func13) (R.val 18) (R.val 19) (R.val 20) (Turn_in t1_.out _), fun a w R => mv (R.slot 7 rfl), fun a w R => c_eql_tt (R.val 21) (R.val 22) (Try.underlying3) (by simp), fun a w R => pickt (R.val 17) (R.val 23), fun a w R => asg (R.val 24), trivial⟩ (fun act_ W4 I => ?_)
        rw [I.act [(17, .bool true), (18, .bool true), (19, .agg #[.int .i64 a1, .int .i64 a2]), (20, .bool false), (21, .agg #[.int .i64 a1, .int .i64 a2]), (22, .bool false), (23, .bool true), (24, .bool true), (25, .bool true), (26, .agg #[.int .i64 a1, .int .i64 a2]), (27, .agg #[.int .i64 b1, .int .i64 b2]), (28, .bool false), (29, .agg #[.int .i64 a1, .int .i64 a2]), (30, .agg #[.int .i64 b1, .int .i64 b2]), (31, .bool false), (32, .bool true), (33, .bool true), (34, .bool true), (35, .agg #[.int .i64 a1, .int .i64 a2]), (36, .agg #[.int .i64 b1, .int .i64 b2]), (37, .agg #[.int .i64 c1, .int .i64 c2]), (38, .int .i64 (tn a1 a2 b1 b2 c1 c2)), (39, .int .i64 (tn a1 a2 b1 b2 c1 c2)), (40, .bool true), (41, .bool true), (6, .bool true)]
          ⟨I.val 0, I.val 1, I.val 2, I.val 3, I.val 4, I.val 5, I.val 6, I.val 7, I.val 8, I.val 9, I.val 10, I.val 11, I.val 12, I.val 13, I.val 14, I.val 15, I.val 16, I.val 17, I.val 18, I.val 19, I.val 20, I.val 21, I.val 22, I.val 23, I.val 24, I.val 25, trivial⟩ rfl]
        have sW4 : W3.heap.size ≤ W4.heap.size := I.below.size
        replace ow3 := I.keep ow3.drawn trivial
        replace ow4 := I.keep ow4.drawn trivial
        replace ow5 := I.keep ow5.drawn trivial
        replace ow11 := I.keep ow11.drawn trivial
        have hW4 : Below w.heap.size w W4 := then_ hW3.drew I.below hW3.size
        clear I
        simp only [List.foldl_cons, List.foldl_nil, List.setIfInBounds_toArray, List.set_cons_zero, List.set_cons_succ]
        clear ow3 ow4 ow5 ow11
        go_wp2
        try simp only [setCell_drawn]
        refine bodyPost_ret (by first | (simp [results, Try.results6, go_sem]; done) | (simp [results, Try.results6, go_sem]; rfl)) rfl ⟨?_, hW4⟩
        rfl
  · have t1_ := Lib.hid t1
    clear t1
    go_upto_region 2 with fail
    refine region_memo_f (B := W1.heap.size) (L := .val (.agg #[.int .i64 a1, .int .i64 a2]) :: .val (.agg #[.int .i64 b1, .int .i64 b2]) :: .val (.agg #[.int .i64 c1, .int .i64 c2]) :: .new 23 #[.int .i64 a1, .int .i64 a2, .int .i64 b1, .int .i64 b2, .int .i64 c1, .int .i64 c2] (some (3, 3)) :: .val (.bool false) :: []) (by kernel_rfl) (Nat.le_refl _) ((by exact trivial))
      ⟨fun a w R => ld_P (R.slot 3 rfl) (R.keep ow3 trivial) rfl rfl, fun a w R => ld_P (R.slot 4 rfl) (R.keep ow4 trivial) rfl rfl, fun a w R => ld_P (R.slot 5 rfl) (R.keep ow5 trivial) rfl rfl, fun a w R => bsP_3 (R.val 0) (R.val 1) (R.val 2), fun a w R => cl_n (enter_at Try.func11) (R.dep 3) (fun g hg => lawin3 t1_.out hg), trivial⟩ (fun act_ W2 I => ?_)
    obtain ⟨gb11, ew11, lw11, ow11⟩ := I.new 3 rfl rfl rfl
    rw [I.act [(8, .agg #[.int .i64 a1, .int .i64 a2]), (9, .agg #[.int .i64 b1, .int .i64 b2]), (10, .agg #[.int .i64 c1, .int .i64 c2]), (11, .slice (some ⟨gb11, 0, none⟩) 3 3), (12, .bool false)]
      ⟨I.val 0, I.val 1, I.val 2, ew11, I.val 4, trivial⟩ rfl]
    change W1.heap.size ≤ gb11 at lw11
    have sW2 : W1.heap.size ≤ W2.heap.size := I.below.size
    replace ow3 := I.keep ow3 trivial
    replace ow4 := I.keep ow4 trivial
    replace ow5 := I.keep ow5 trivial
    have hW2 : Below w.heap.size w W2 := then_ hW1 I.below hW1.size
    clear ew11
    clear I
    simp only [List.foldl_cons, List.foldl_nil, List.setIfInBounds_toArray, List.set_cons_zero, List.set_cons_succ]
    rcases Bool.eq_false_or_eq_true (inB a1 a2) with t5 | t5
    · have t5_ := Lib.hid t5
      clear t5
      rcases Bool.eq_false_or_eq_true (lsB a1 a2 b1 b2) with t6 | t6
      · have t6_ := Lib.hid t6
        clear t6
        go_upto_region 4 with fail
        refine region_memo (B := W2.heap.size) (L := .val (.bool true) :: .val (.bool true) :: .val (.agg #[.int .i64 a1, .int .i64 a2]) :: .val (.bool true) :: .val (.agg #[.int .i64 a1, .int .i64 a2]) :: .val (.bool true) :: .val (.bool true) :: .val (.bool true) :: .val (.bool true) :: .val (.agg #[.int .i64 a1, .int .i64 a2]) :: .val (.agg #[.int .i64 b1, .int .i64 b2]) :: .val (.bool true) :: .val (.agg #[.int .i64 a1, .int .i64 a2]) :: .val (.agg #[.int .i64 b1, .int .i64 b2]) :: .val (.bool true) :: .val (.bool true) :: .val (.bool true) :: .val (.bool true) :: .val (.agg #[.int .i64 a1, .int .i64 a2]) :: .val (.agg #[.int .i64 b1, .int .i64 b2]) :: .val (.agg #[.int .i64 c1, .int .i64 c2]) :: .val (.int .i64 0) :: .val (.int .i64 0) :: .val (.bool true) :: .val (.bool true) :: .val (.bool true) :: []) (by kernel_rfl) (by kernel_rfl) (Nat.le_refl _) ((by exact trivial))
          ⟨fun a w R => cl_0 (enter_at Try.func12)  (awake_any _), fun a w R => mv (R.val 0), fun a w R => ld_P (R.slot 3 rfl) (R.keep ow3.drawn trivial) rfl rfl, fun a w R => cl_t (enter_at Try.func22) (R.val 2) (In_is t5_.out _), fun a w R => ld_P (R.slot 3 rfl) (R.keep ow3.drawn trivial) rfl rfl, fun a w R => cl_t (enter_at Try.func23) (R.val 4) (RIn_is t5_.out _), fun a w R => cb_eql_tt (R.val 3) (R.val 5) rfl, fun a w R => pickt (R.val 1) (R.val 6), fun a w R => mv (R.val 7), fun a w R => ld_P (R.slot 3 rfl) (R.keep ow3.drawn trivial) rfl rfl, fun a w R => ld_P (R.slot 4 rfl) (R.keep ow4.drawn trivial) rfl rfl, fun a w R => cl_tt (enter_at Try.func24) (R.val 9) (R.val 10) (Less_is t6_.out _), fun a w R => ld_P (R.slot 3 rfl) (R.keep ow3.drawn trivial) rfl rfl, fun a w R => ld_P (R.slot 4 rfl) (R.keep ow4.drawn trivial) rfl rfl, fun a w R => cl_tt (enter_at Try.func25) (R.val 12) (R.val 13) (RLess_is t6_.out _), fun a w R => cb_eql_tt (R.val 11) (R.val 14) rfl, fun a w R => pickt (R.val 8) (R.val 15), fun a w R => mv (R.val 16), fun a w R => ld_P (R.slot 3 rfl) (R.keep ow3.drawn trivial) rfl rfl, fun a w R => ld_P (R.slot 4 rfl) (R.keep ow4.drawn trivial) rfl rfl, fun a w R => ld_P (R.slot 5 rfl) (R.keep ow5.drawn trivial) rfl rfl, fun a w R => cl_ttt (enter_at Try.func13) (R.val 18) (R.val 19) (R.val 20) (Turn_out t1_.out _), fun a w R => mv (R.slot 7 rfl), fun a w R => c_eql_tt (R.val 21) (R.val 22) (Try.underlying3) (by decide), fun a w R => pickt (R.val 17) (R.val 23), fun a w R => asg (R.val 24), trivial⟩ (fun act_ W3 I => ?_)
        rw [I.act [(17, .bool true), (18, .bool true), (19, .agg #[.int .i64 a1, .int .i64 a2]), (20, .bool true), (21, .agg #[.int .i64 a1, .int .i64 a2]), (22, .bool true), (23, .bool true), (24, .bool true), (25, .bool true), (26, .agg #[.int .i64 a1, .int .i64 a2]), (27, .agg #[.int .i64 b1, .int .i64 b2]), (28, .bool true), (29, .agg #[.int .i64 a1, .int .i64 a2]), (30, .agg #[.int .i64 b1, .int .i64 b2]), (31, .bool true), (32, .bool true), (33, .bool true), (34, .bool true), (35, .agg #[.int .i64 a1, .int .i64 a2]), (36, .agg #[.int .i64 b1, .int .i64 b2]), (37, .agg #[.int .i64 c1, .int .i64 c2]), (38, .int .i64 0), (39, .int .i64 0), (40, .bool true), (41, .bool true), (6, .bool true)]
          ⟨I.val 0, I.val 1, I.val 2, I.val 3, I.val 4, I.val 5, I.val 6, I.val 7, I.val 8, I.val 9, I.val 10, I.val 11, I.val 12, I.val 13, I.val 14, I.val 15, I.val 16, I.val 17, I.val 18, I.val 19, I.val 20, I.val 21, I.val 22, I.val 23, I.val 24, I.val 25, trivial⟩ rfl]
        have sW3 : W2.heap.size ≤ W3.heap.size := I.below.size
        replace ow3 := I.keep ow3.drawn trivial
        replace ow4 := I.keep ow4.drawn trivial
        replace ow5 := I.keep ow5.drawn trivial
        replace ow11 := I.keep ow11.drawn trivial
        have hW3 : Below w.heap.size w W3 := then_ hW2.drew I.below hW2.size
        clear I
        simp only [List.foldl_cons, List.foldl_nil, List.setIfInBounds_toArray, List.set_cons_zero, List.set_cons_succ]
        clear ow3 ow4 ow5 ow11
        go_wp2
        try simp only [setCell_drawn]
        refine bodyPost_ret (by first | (simp [results, Try.results6, go_sem]; done) | (simp [results, Try.results6, go_sem]; rfl)) rfl ⟨?_, hW3⟩
        rfl
      · have t6_ := Lib.hid t6
        clear t6
        go_upto_region 4 with fail
        refine region_memo (B := W2.heap.size) (L := .val (.bool true) :: .val (.bool true) :: .val (.agg #[.int .i64 a1, .int .i64 a2]) :: .val (.bool true) :: .val (.agg #[.int .i64 a1, .int .i64 a2]) :: .val (.bool true) :: .val (.bool true) :: .val (.bool true) :: .val (.bool true) :: .val (.agg #[.int .i64 a1, .int .i64 a2]) :: .val (.agg #[.int .i64 b1, .int .i64 b2]) :: .val (.bool false) :: .val (.agg #[.int .i64 a1, .int .i64 a2]) :: .val (.agg #[.int .i64 b1, .int .i64 b2]) :: .val (.bool false) :: .val (.bool true) :: .val (.bool true) :: .val (.bool true) :: .val (.agg #[.int .i64 a1, .int .i64 a2]) :: .val (.agg #[.int .i64 b1, .int .i64 b2]) :: .val (.agg #[.int .i64 c1, .int .i64 c2]) :: .val (.int .i64 0) :: .val (.int .i64 0) :: .val (.bool true) :: .val (.bool true) :: .val (.bool true) :: []) (by kernel_rfl) (by kernel_rfl) (Nat.le_refl _) ((by exact trivial))
          ⟨fun a w R => cl_0 (enter_at Try.func12)  (awake_any _), fun a w R => mv (R.val 0), fun a w R => ld_P (R.slot 3 rfl) (R.keep ow3.drawn trivial) rfl rfl, fun a w R => cl_t (enter_at Try.func22) (R.val 2) (In_is t5_.out _), fun a w R => ld_P (R.slot 3 rfl) (R.keep ow3.drawn trivial) rfl rfl, fun a w R => cl_t (enter_at Try.func23) (R.val 4) (RIn_is t5_.out _), fun a w R => cb_eql_tt (R.val 3) (R.val 5) rfl, fun a w R => pickt (R.val 1) (R.val 6), fun a w R => mv (R.val 7), fun a w R => ld_P (R.slot 3 rfl) (R.keep ow3.drawn trivial) rfl rfl, fun a w R => ld_P (R.slot 4 rfl) (R.keep ow4.drawn trivial) rfl rfl, fun a w R => cl_tt (enter_at Try.func24) (R.val 9) (R.val 10) (Less_is t6_.out _), fun a w R => ld_P (R.slot 3 rfl) (R.keep ow3.drawn trivial) rfl rfl, fun a w R => ld_P (R.slot 4 rfl) (R.keep ow4.drawn trivial) rfl rfl, fun a w R => cl_tt (enter_at Try.func25) (R.val 12) (R.val 13) (RLess_is t6_.out _), fun a w R => cb_eql_tt (R.val 11) (R.val 14) rfl, fun a w R => pickt (R.val 8) (R.val 15), fun a w R => mv (R.val 16), fun a w R => ld_P (R.slot 3 rfl) (R.keep ow3.drawn trivial) rfl rfl, fun a w R => ld_P (R.slot 4 rfl) (R.keep ow4.drawn trivial) rfl rfl, fun a w R => ld_P (R.slot 5 rfl) (R.keep ow5.drawn trivial) rfl rfl, fun a w R => cl_ttt (enter_at Try.func13) (R.val 18) (R.val 19) (R.val 20) (Turn_out t1_.out _), fun a w R => mv (R.slot 7 rfl), fun a w R => c_eql_tt (R.val 21) (R.val 22) (Try.underlying3) (by decide), fun a w R => pickt (R.val 17) (R.val 23), fun a w R => asg (R.val 24), trivial⟩ (fun act_ W3 I => ?_)
        rw [I.act [(17, .bool true), (18, .bool true), (19, .agg #[.int .i64 a1, .int .i64 a2]), (20, .bool true), (21, .agg #[.int .i64 a1, .int .i64 a2]), (22, .bool true), (23, .bool true), (24, .bool true), (25, .bool true), (26, .agg #[.int .i64 a1, .int .i64 a2]), (27, .agg #[.int .i64 b1, .int .i64 b2]), (28, .bool false), (29, .agg #[.int .i64 a1, .int .i64 a2]), (30, .agg #[.int .i64 b1, .int .i64 b2]), (31, .bool false), (32, .bool true), (33, .bool true), (34, .bool true), (35, .agg #[.int .i64 a1, .int .i64 a2]), (36, .agg #[.int .i64 b1, .int .i64 b2]), (37, .agg #[.int .i64 c1, .int .i64 c2]), (38, .int .i64 0), (39, .int .i64 0), (40, .bool true), (41, .bool true), (6, .bool true)]
          ⟨I.val 0, I.val 1, I.val 2, I.val 3, I.val 4, I.val 5, I.val 6, I.val 7, I.val 8, I.val 9, I.val 10, I.val 11, I.val 12, I.val 13, I.val 14, I.val 15, I.val 16, I.val 17, I.val 18, I.val 19, I.val 20, I.val 21, I.val 22, I.val 23, I.val 24, I.val 25, trivial⟩ rfl]
        have sW3 : W2.heap.size ≤ W3.heap.size := I.below.size
        replace ow3 := I.keep ow3.drawn trivial
        replace ow4 := I.keep ow4.drawn trivial
        replace ow5 := I.keep ow5.drawn trivial
        replace ow11 := I.keep ow11.drawn trivial
        have hW3 : Below w.heap.size w W3 := then_ hW2.drew I.below hW2.size
        clear I
        simp only [List.foldl_cons, List.foldl_nil, List.setIfInBounds_toArray, List.set_cons_zero, List.set_cons_succ]
        clear ow3 ow4 ow5 ow11
        go_wp2
        try simp only [setCell_drawn]
        refine bodyPost_ret (by first | (simp [results, Try.results6, go_sem]; done) | (simp [results, Try.results6, go_sem]; rfl)) rfl ⟨?_, hW3⟩
        rfl
    · have t5_ := Lib.hid t5
      clear t5
      rcases Bool.eq_false_or_eq_true (lsB a1 a2 b1 b2) with t7 | t7
      · have t7_ := Lib.hid t7
        clear t7
        go_upto_region 4 with fail
        refine region_memo (B := W2.heap.size) (L := .val (.bool true) :: .val (.bool true) :: .val (.agg #[.int .i64 a1, .int .i64 a2]) :: .val (.bool false) :: .val (.agg #[.int .i64 a1, .int .i64 a2]) :: .val (.bool false) :: .val (.bool true) :: .val (.bool true) :: .val (.bool true) :: .val (.agg #[.int .i64 a1, .int .i64 a2]) :: .val (.agg #[.int .i64 b1, .int .i64 b2]) :: .val (.bool true) :: .val (.agg #[.int .i64 a1, .int .i64 a2]) :: .val (.agg #[.int .i64 b1, .int .i64 b2]) :: .val (.bool true) :: .val (.bool true) :: .val (.bool true) :: .val (.bool true) :: .val (.agg #[.int .i64 a1, .int .i64 a2]) :: .val (.agg #[.int .i64 b1, .int .i64 b2]) :: .val (.agg #[.int .i64 c1, .int .i64 c2]) :: .val (.int .i64 0) :: .val (.int .i64 0) :: .val (.bool true) :: .val (.bool true) :: .val (.bool true) :: []) (by kernel_rfl) (by kernel_rfl) (Nat.le_refl _) ((by exact trivial))
          ⟨fun a w R => cl_0 (enter_at Try.func12)  (awake_any _), fun a w R => mv (R.val 0), fun a w R => ld_P (R.slot 3 rfl) (R.keep ow3.drawn trivial) rfl rfl, fun a w R => cl_t (enter_at Try.func22) (R.val 2) (In_is t5_.out _), fun a w R => ld_P (R.slot 3 rfl) (R.keep ow3.drawn trivial) rfl rfl, fun a w R => cl_t (enter_at Try.func23) (R.val 4) (RIn_is t5_.out _), fun a w R => cb_eql_tt (R.val 3) (R.val 5) rfl, fun a w R => pickt (R.val 1) (R.val 6), fun a w R => mv (R.val 7), fun a w R => ld_P (R.slot 3 rfl) (R.keep ow3.drawn trivial) rfl rfl, fun a w R => ld_P (R.slot 4 rfl) (R.keep ow4.drawn trivial) rfl rfl, fun a w R => cl_tt (enter_at Try.func24) (R.val 9) (R.val 10) (Less_is t7_.out _), fun a w R => ld_P (R.slot 3 rfl) (R.keep ow3.drawn trivial) rfl rfl, fun a w R => ld_P (R.slot 4 rfl) (R.keep ow4.drawn trivial) rfl rfl, fun a w R => cl_tt (enter_at Try.func25) (R.val 12) (R.val 13) (RLess_is t7_.out _), fun a w R => cb_eql_tt (R.val 11) (R.val 14) rfl, fun a w R => pickt (R.val 8) (R.val 15), fun a w R => mv (R.val 16), fun a w R => ld_P (R.slot 3 rfl) (R.keep ow3.drawn trivial) rfl rfl, fun a w R => ld_P (R.slot 4 rfl) (R.keep ow4.drawn trivial) rfl rfl, fun a w R => ld_P (R.slot 5 rfl) (R.keep ow5.drawn trivial) rfl rfl, fun a w R => cl_ttt (enter_at Try.func13) (R.val 18) (R.val 19) (R.val 20) (Turn_out t1_.out _), fun a w R => mv (R.slot 7 rfl), fun a w R => c_eql_tt (R.val 21) (R.val 22) (Try.underlying3) (by decide), fun a w R => pickt (R.val 17) (R.val 23), fun a w R => asg (R.val 24), trivial⟩ (fun act_ W3 I => ?_)
        rw [I.act [(17, .bool true), (18, .bool true), (19, .agg #[.int .i64 a1, .int .i64 a2]), (20, .bool false), (21, .agg #[.int .i64 a1, .int .i64 a2]), (22, .bool false), (23, .bool true), (24, .bool true), (25, .bool true), (26, .agg #[.int .i64 a1, .int .i64 a2]), (27, .agg #[.int .i64 b1, .int .i64 b2]), (28, .bool true), (29, .agg #[.int .i64 a1, .int .i64 a2]), (30, .agg #[.int .i64 b1, .int .i64 b2]), (31, .bool true), (32, .bool true), (33, .bool true), (34, .bool true), (35, .agg #[.int .i64 a1, .int .i64 a2]), (36, .agg #[.int .i64 b1, .int .i64 b2]), (37, .agg #[.int .i64 c1, .int .i64 c2]), (38, .int .i64 0), (39, .int .i64 0), (40, .bool true), (41, .bool true), (6, .bool true)]
          ⟨I.val 0, I.val 1, I.val 2, I.val 3, I.val 4, I.val 5, I.val 6, I.val 7, I.val 8, I.val 9, I.val 10, I.val 11, I.val 12, I.val 13, I.val 14, I.val 15, I.val 16, I.val 17, I.val 18, I.val 19, I.val 20, I.val 21, I.val 22, I.val 23, I.val 24, I.val 25, trivial⟩ rfl]
        have sW3 : W2.heap.size ≤ W3.heap.size := I.below.size
        replace ow3 := I.keep ow3.drawn trivial
        replace ow4 := I.keep ow4.drawn trivial
        replace ow5 := I.keep ow5.drawn trivial
        replace ow11 := I.keep ow11.drawn trivial
        have hW3 : Below w.heap.size w W3 := then_ hW2.drew I.below hW2.size
        clear I
        simp only [List.foldl_cons, List.foldl_nil, List.setIfInBounds_toArray, List.set_cons_zero, List.set_cons_succ]
        clear ow3 ow4 ow5 ow11
        go_wp2
        try simp only [setCell_drawn]
        refine bodyPost_ret (by first | (simp [results, Try.results6, go_sem]; done) | (simp [results, Try.results6, go_sem]; rfl)) rfl ⟨?_, hW3⟩
        rfl
      · have t7_ := Lib.hid t7
        clear t7
        go_upto_region 4 with fail
        refine region_memo (B := W2.heap.size) (L := .val (.bool true) :: .val (.bool true) :: .val (.agg #[.int .i64 a1, .int .i64 a2]) :: .val (.bool false) :: .val (.agg #[.int .i64 a1, .int .i64 a2]) :: .val (.bool false) :: .val (.bool true) :: .val (.bool true) :: .val (.bool true) :: .val (.agg #[.int .i64 a1, .int .i64 a2]) :: .val (.agg #[.int .i64 b1, .int .i64 b2]) :: .val (.bool false) :: .val (.agg #[.int .i64 a1, .int .i64 a2]) :: .val (.agg #[.int .i64 b1, .int .i64 b2]) :: .val (.bool false) :: .val (.bool true) :: .val (.bool true) :: .val (.bool true) :: .val (.agg #[.int .i64 a1, .int .i64 a2]) :: .val (.agg #[.int .i64 b1, .int .i64 b2]) :: .val (.agg #[.int .i64 c1, .int .i64 c2]) :: .val (.int .i64 0) :: .val (.int .i64 0) :: .val (.bool true) :: .val (.bool true) :: .val (.bool true) :: []) (by kernel_rfl) (by kernel_rfl) (Nat.le_refl _) ((by exact trivial))
          ⟨fun a w R => cl_0 (enter_at Try.func12)  (awake_any _), fun a w R => mv (R.val 0), fun a w R => ld_P (R.slot 3 rfl) (R.keep ow3.drawn trivial) rfl rfl, fun a w R => cl_t (enter_at Try.func22) (R.val 2) (In_is t5_.out _), fun a w R => ld_P (R.slot 3 rfl) (R.keep ow3.drawn trivial) rfl rfl, fun a w R => cl_t (enter_at Try.func23) (R.val 4) (RIn_is t5_.out _), fun a w R => cb_eql_tt (R.val 3) (R.val 5) rfl, fun a w R => pickt (R.val 1) (R.val 6), fun a w R => mv (R.val 7), fun a w R => ld_P (R.slot 3 rfl) (R.keep ow3.drawn trivial) rfl rfl, fun a w R => ld_P (R.slot 4 rfl) (R.keep ow4.drawn trivial) rfl rfl, fun a w R => cl_tt (enter_at Try.func24) (R.val 9) (R.val 10) (Less_is t7_.out _), fun a w R => ld_P (R.slot 3 rfl) (R.keep ow3.drawn trivial) rfl rfl, fun a w R => ld_P (R.slot 4 rfl) (R.keep ow4.drawn trivial) rfl rfl, fun a w R => cl_tt (enter_at Try.func25) (R.val 12) (R.val 13) (RLess_is t7_.out _), fun a w R => cb_eql_tt (R.val 11) (R.val 14) rfl, fun a w R => pickt (R.val 8) (R.val 15), fun a w R => mv (R.val 16), fun a w R => ld_P (R.slot 3 rfl) (R.keep ow3.drawn trivial) rfl rfl, fun a w R => ld_P (R.slot 4 rfl) (R.keep ow4.drawn trivial) rfl rfl, fun a w R => ld_P (R.slot 5 rfl) (R.keep ow5.drawn trivial) rfl rfl, fun a w R => cl_ttt (enter_at Try.func13) (R.val 18) (R.val 19) (R.val 20) (Turn_out t1_.out _), fun a w R => mv (R.slot 7 rfl), fun a w R => c_eql_tt (R.val 21) (R.val 22) (Try.underlying3) (by decide), fun a w R => pickt (R.val 17) (R.val 23), fun a w R => asg (R.val 24), trivial⟩ (fun act_ W3 I => ?_)
        rw [I.act [(17, .bool true), (18, .bool true), (19, .agg #[.int .i64 a1, .int .i64 a2]), (20, .bool false), (21, .agg #[.int .i64 a1, .int .i64 a2]), (22, .bool false), (23, .bool true), (24, .bool true), (25, .bool true), (26, .agg #[.int .i64 a1, .int .i64 a2]), (27, .agg #[.int .i64 b1, .int .i64 b2]), (28, .bool false), (29, .agg #[.int .i64 a1, .int .i64 a2]), (30, .agg #[.int .i64 b1, .int .i64 b2]), (31, .bool false), (32, .bool true), (33, .bool true), (34, .bool true), (35, .agg #[.int .i64 a1, .int .i64 a2]), (36, .agg #[.int .i64 b1, .int .i64 b2]), (37, .agg #[.int .i64 c1, .int .i64 c2]), (38, .int .i64 0), (39, .int .i64 0), (40, .bool true), (41, .bool true), (6, .bool true)]
          ⟨I.val 0, I.val 1, I.val 2, I.val 3, I.val 4, I.val 5, I.val 6, I.val 7, I.val 8, I.val 9, I.val 10, I.val 11, I.val 12, I.val 13, I.val 14, I.val 15, I.val 16, I.val 17, I.val 18, I.val 19, I.val 20, I.val 21, I.val 22, I.val 23, I.val 24, I.val 25, trivial⟩ rfl]
        have sW3 : W2.heap.size ≤ W3.heap.size := I.below.size
        replace ow3 := I.keep ow3.drawn trivial
        replace ow4 := I.keep ow4.drawn trivial
        replace ow5 := I.keep ow5.drawn trivial
        replace ow11 := I.keep ow11.drawn trivial
        have hW3 : Below w.heap.size w W3 := then_ hW2.drew I.below hW2.size
        clear I
        simp only [List.foldl_cons, List.foldl_nil, List.setIfInBounds_toArray, List.set_cons_zero, List.set_cons_succ]
        clear ow3 ow4 ow5 ow11
        go_wp2
        try simp only [setCell_drawn]
        refine bodyPost_ret (by first | (simp [results, Try.results6, go_sem]; done) | (simp [results, Try.results6, go_sem]; rfl)) rfl ⟨?_, hW3⟩
        rfl

set_option maxRecDepth 100000 in
theorem lifted (os : Os) (started : os.Started) (H : Type) (enc : TypeId × Value → H) :
    ReturnsInHanded {} Try.checked os 6 .any (Rows.geomTurnsSpec.pre6 enc Try.prog Try.f6 Rows.geomTurnsRow.domain false) (Rows.geomTurnsSpec.post enc Try.prog Try.f6 false true false false) := by
  refine returnsInHanded_of_change (C := Try.checked) own started (by kernel_rfl) Try.func6
    (ChangeSpec.witness6 (enc := enc) (C := Try.checked) false ⟨#[], #[.agg #[.int .i64 0, .int .i64 0], .agg #[.int .i64 0, .int .i64 0], .agg #[.int .i64 0, .int .i64 0]], []⟩ 8 (by kernel_rfl) (by kernel_rfl) (by kernel_rfl) (by kernel_rfl)) ?_
  intro W base args ds gs before hval0 hW hcnd _
  have hval : ∀ (j : Nat) t v, Try.f6.params[j]? = some t → args[j]? = some v → Value.okWide Try.prog W .any base t v := hval0
  have hW' := hW
  obtain ⟨p, q, hA0, hV, rfl, hfz, hnd⟩ := hW
  have hA : DataW.TrodAll enc Try.prog W 0 (fun _ => true) true Try.f6.params.toList args.toList ds p := hA0
  rw [Try.params6] at hA hval
  obtain ⟨v0, vs0, d0, ds0, p0, q0, hargs, rfl, rfl, h0, r0⟩ := trodAll_cons hA
  obtain ⟨v1, vs1, d1, ds1, p1, q1, rfl, rfl, rfl, h1, r1⟩ := trodAll_cons r0
  obtain ⟨v2, vs2, d2, ds2, p2, q2, rfl, rfl, rfl, h2, r2⟩ := trodAll_cons r1
  obtain ⟨rfl, rfl, rfl⟩ := trodAll_nil r2
  obtain rfl : args = #[v0, v1, v2] := by cases args; simp_all
  obtain ⟨rfl, rfl⟩ := trodVars_none hV
  obtain ⟨a1, a2, rfl, rfl, fa1, fa2⟩ := open_pt (hval 0 23 v0 rfl rfl) h0
  obtain ⟨b1, b2, rfl, rfl, fb1, fb2⟩ := open_pt (hval 1 23 v1 rfl rfl) h1
  obtain ⟨c1, c2, rfl, rfl, fc1, fc2⟩ := open_pt (hval 2 23 v2 rfl rfl) h2
  clear hA0 hval0
  refine (walk a1 a2 b1 b2 c1 c2 W fa1 fa2 fb1 fb2 fc1 fc2).mono fun e W' ⟨he, bel⟩ => ?_
  subst he
  exact ⟨_, rfl, _, _, _, [], _, [], hW', trodAll_mk1 (shut_bool Try.underlying4 _), (trodAll_cons_mk (Below.trod laidOut (by kernel_rfl) (of_decide_eq_true (by kernel_rfl)) h0 bel (fun x hx => by cases hx)) (trodAll_cons_mk (Below.trod laidOut (by kernel_rfl) (of_decide_eq_true (by kernel_rfl)) h1 bel (fun x hx => by cases hx)) (trodAll_cons_mk (Below.trod laidOut (by kernel_rfl) (of_decide_eq_true (by kernel_rfl)) h2 bel (fun x hx => by cases hx)) trodAll_mk0))), rfl, bel.frame _, fun h => by cases h⟩

theorem over : Rows.geomTurnsRow.holds Try.pinned (OpenSpec.ofChange Rows.geomTurnsSpec) :=
  OpenClaim.holds_of_wide 6 Try.f6 rfl rfl rfl rfl rfl rfl rfl ⟨rfl, rfl, rfl, rfl, rfl⟩ rfl rfl rfl rfl rfl (by kernel_rfl) Try.func6 (by kernel_rfl)
    (of_decide_eq_true (by kernel_rfl)) (by unfold Func.isWrapper; first | (rw [if_pos (by decide +kernel)]; kernel_rfl) | (rw [if_neg (by decide +kernel)]; exact ⟨rfl, rfl⟩))
    (fun os started H enc _ => lifted os started H enc)

/-- THE STATEMENT -/
theorem proved : Rows.GeomTurnsSaid := over
#print axioms proved
end Go.Proofs.Ytlifghecgpibfaa.geomTurns
