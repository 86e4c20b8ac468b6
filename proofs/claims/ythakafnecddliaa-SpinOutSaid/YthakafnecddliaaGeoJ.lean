
/- The document's Meet; written by auto_geom4.py. Conditions: points in range. -/
import Derived.Test.YthakafnecddliaaGeoF
namespace Go.Proofs.Ythakafnecddliaa
open Go.ChangeShapes Go.WideShapes Go.ChangeAt Go.RowKit
set_option linter.unusedVariables false
set_option linter.unusedSimpArgs false

def rmB (a1 a2 b1 b2 c1 c2 d1 d2 : Int) : Bool := if (tn a1 a2 b1 b2 c1 c2 == 0) && (tn a1 a2 b1 b2 d1 d2 == 0) then roB a1 a2 c1 c2 d1 d2 || roB b1 b2 c1 c2 d1 d2 || roB c1 c2 a1 a2 b1 b2 || roB d1 d2 a1 a2 b1 b2 || (wiB a1 a2 c1 c2 d1 d2 && wiB b1 b2 c1 c2 d1 d2) else if decide (a1 = c1 ∧ a2 = c2) || decide (a1 = d1 ∧ a2 = d2) || decide (b1 = c1 ∧ b2 = c2) || decide (b1 = d1 ∧ b2 = d2) then false else !((tn a1 a2 b1 b2 c1 c2 == tn a1 a2 b1 b2 d1 d2) || (tn c1 c2 d1 d2 a1 a2 == tn c1 c2 d1 d2 b1 b2))
set_option maxHeartbeats 16000000 in
set_option maxRecDepth 20000 in
theorem RMeet_in {a1 a2 b1 b2 c1 c2 d1 d2 : Int} (ra : Rng a1 a2) (rb : Rng b1 b2) (rc : Rng c1 c2) (rd : Rng d1 d2) (w : World) : Calls Try.prog 54 #[.agg #[.int .i64 a1, .int .i64 a2], .agg #[.int .i64 b1, .int .i64 b2], .agg #[.int .i64 c1, .int .i64 c2], .agg #[.int .i64 d1, .int .i64 d2]] w fun e w' => e = .returned (.bool (rmB a1 a2 b1 b2 c1 c2 d1 d2)) ∧ Bel w.heap.size w w' := by
  have hin_ := Lib.hid (in4_iff.2 ⟨ra, rb, rc, rd⟩)
  clear ra rb rc rd
  go_enter Try.func54, Try.ntmps54
  go_upto_region 1 with fail
  go_name_world W0 hW0e
  have ow4 : Own W0 w.heap.size 37 #[.int .i64 a1, .int .i64 a2] := hW0e ▸ (by repeat' (first | (with_reducible assumption) | (with_reducible refine Own.drawnN ?_ _) | (with_reducible refine Own.drawn ?_) | (with_reducible refine Own.made_at ?_; first | rfl | (simp; done) | omega | (simp; omega)) | (with_reducible refine Own.more ?_ _) | (with_reducible refine Own.apart ?_ ?_ _ _; rotate_left; first | omega | (simp; done) | (simp; omega)) | (refine Own.put ?_ _ _)))
  have ow5 : Own W0 (w.heap.size + 1) 37 #[.int .i64 b1, .int .i64 b2] := hW0e ▸ (by repeat' (first | (with_reducible assumption) | (with_reducible refine Own.drawnN ?_ _) | (with_reducible refine Own.drawn ?_) | (with_reducible refine Own.made_at ?_; first | rfl | (simp; done) | omega | (simp; omega)) | (with_reducible refine Own.more ?_ _) | (with_reducible refine Own.apart ?_ ?_ _ _; rotate_left; first | omega | (simp; done) | (simp; omega)) | (refine Own.put ?_ _ _)))
  have ow6 : Own W0 (w.heap.size + 1 + 1) 37 #[.int .i64 c1, .int .i64 c2] := hW0e ▸ (by repeat' (first | (with_reducible assumption) | (with_reducible refine Own.drawnN ?_ _) | (with_reducible refine Own.drawn ?_) | (with_reducible refine Own.made_at ?_; first | rfl | (simp; done) | omega | (simp; omega)) | (with_reducible refine Own.more ?_ _) | (with_reducible refine Own.apart ?_ ?_ _ _; rotate_left; first | omega | (simp; done) | (simp; omega)) | (refine Own.put ?_ _ _)))
  have ow7 : Own W0 (w.heap.size + 1 + 1 + 1) 37 #[.int .i64 d1, .int .i64 d2] := hW0e ▸ (by repeat' (first | (with_reducible assumption) | (with_reducible refine Own.drawnN ?_ _) | (with_reducible refine Own.drawn ?_) | (with_reducible refine Own.made_at ?_; first | rfl | (simp; done) | omega | (simp; omega)) | (with_reducible refine Own.more ?_ _) | (with_reducible refine Own.apart ?_ ?_ _ _; rotate_left; first | omega | (simp; done) | (simp; omega)) | (refine Own.put ?_ _ _)))
  have hW0 : Bel w.heap.size w W0 := hW0e ▸ (by repeat' (first | (with_reducible exact Bel.refl _ _) | (with_reducible assumption) | (with_reducible refine bel_drewN ?_ _) | (with_reducible refine Bel.drew ?_) | (with_reducible refine Bel.alloc ?_ ?_ _) | (with_reducible refine Bel.setCell ?_ ?_ _) | (with_reducible refine thenB ?_ (by with_reducible assumption) ?_) | (with_reducible exact Nat.le_refl _) | (with_reducible exact Nat.le_succ _) | (with_reducible exact Nat.le_succ_of_le (by with_reducible assumption)) | omega | (simp; done) | (simp; omega) | (exact Nat.le_succ _) | (exact Nat.le_succ_of_le (by with_reducible assumption))))
  clear hW0e
  have z0 := ow7.in_
  rcases Bool.eq_false_or_eq_true (((tn a1 a2 b1 b2 c1 c2) == 0)) with t1 | t1
  · have t1_ := Lib.hid t1
    clear t1
    rcases Bool.eq_false_or_eq_true (((tn a1 a2 b1 b2 d1 d2) == 0)) with t2 | t2
    · have t2_ := Lib.hid t2
      clear t2
      go_upto_region 1 with fail
      refine region_memo_f (B := W0.heap.size) (L := .val (.agg #[.int .i64 a1, .int .i64 a2]) :: .val (.agg #[.int .i64 b1, .int .i64 b2]) :: .val (.agg #[.int .i64 c1, .int .i64 c2]) :: .val (.int .i64 (tn a1 a2 b1 b2 c1 c2)) :: .val (.bool true) :: .val (.bool true) :: .val (.agg #[.int .i64 a1, .int .i64 a2]) :: .val (.agg #[.int .i64 b1, .int .i64 b2]) :: .val (.agg #[.int .i64 d1, .int .i64 d2]) :: .val (.int .i64 (tn a1 a2 b1 b2 d1 d2)) :: .val (.bool true) :: .val (.bool true) :: []) (by kernel_rfl) (Nat.le_refl _) ((by exact trivial))
        ⟨fun a w R => ld_P (R.slot 4 rfl) (R.keep ow4 trivial) rfl rfl, fun a w R => ld_P (R.slot 5 rfl) (R.keep ow5 trivial) rfl rfl, fun a w R => ld_P (R.slot 6 rfl) (R.keep ow6 trivial) rfl rfl, fun a w R => cl_ttt (enter_at Try.func56) (R.val 0) (R.val 1) (R.val 2) (RTurn_in (in4_iff.1 hin_.out).1 (in4_iff.1 hin_.out).2.1 (in4_iff.1 hin_.out).2.2.1 _), fun a w R => c_eql_tk (R.val 3) (Try.underlying3) t1_.out, fun a w R => mv (R.val 4), fun a w R => ld_P (R.slot 4 rfl) (R.keep ow4 trivial) rfl rfl, fun a w R => ld_P (R.slot 5 rfl) (R.keep ow5 trivial) rfl rfl, fun a w R => ld_P (R.slot 7 rfl) (R.keep ow7 trivial) rfl rfl, fun a w R => cl_ttt (enter_at Try.func56) (R.val 6) (R.val 7) (R.val 8) (RTurn_in (in4_iff.1 hin_.out).1 (in4_iff.1 hin_.out).2.1 (in4_iff.1 hin_.out).2.2.2 _), fun a w R => c_eql_tk (R.val 9) (Try.underlying3) t2_.out, fun a w R => pickt (R.val 5) (R.val 10), trivial⟩ (fun act_ W1 I => ?_)
      rw [I.act [(10, .agg #[.int .i64 a1, .int .i64 a2]), (11, .agg #[.int .i64 b1, .int .i64 b2]), (12, .agg #[.int .i64 c1, .int .i64 c2]), (13, .int .i64 (tn a1 a2 b1 b2 c1 c2)), (14, .bool true), (15, .bool true), (16, .agg #[.int .i64 a1, .int .i64 a2]), (17, .agg #[.int .i64 b1, .int .i64 b2]), (18, .agg #[.int .i64 d1, .int .i64 d2]), (19, .int .i64 (tn a1 a2 b1 b2 d1 d2)), (20, .bool true), (21, .bool true)]
        ⟨I.val 0, I.val 1, I.val 2, I.val 3, I.val 4, I.val 5, I.val 6, I.val 7, I.val 8, I.val 9, I.val 10, I.val 11, trivial⟩ rfl]
      have sW1 : W0.heap.size ≤ W1.heap.size := I.below.size
      replace ow4 := I.keep ow4 trivial
      replace ow5 := I.keep ow5 trivial
      replace ow6 := I.keep ow6 trivial
      replace ow7 := I.keep ow7 trivial
      have hW1 : Bel w.heap.size w W1 := thenB hW0 I.below hW0.size
      clear I
      simp only [List.foldl_cons, List.foldl_nil, List.setIfInBounds_toArray, List.set_cons_zero, List.set_cons_succ]
      rcases Bool.eq_false_or_eq_true (roB a1 a2 c1 c2 d1 d2) with t3 | t3
      · have t3_ := Lib.hid t3
        clear t3
        go_upto_region 2 with fail
        refine region_memo_f (B := W1.heap.size) (L := .val (.agg #[.int .i64 a1, .int .i64 a2]) :: .val (.agg #[.int .i64 c1, .int .i64 c2]) :: .val (.agg #[.int .i64 d1, .int .i64 d2]) :: .val (.bool true) :: .val (.bool true) :: .skip :: .skip :: .skip :: .skip :: .val (.bool true) :: .val (.bool true) :: .skip :: .skip :: .skip :: .skip :: .val (.bool true) :: .val (.bool true) :: .skip :: .skip :: .skip :: .skip :: .val (.bool true) :: .val (.bool true) :: .skip :: .skip :: .skip :: .skip :: .skip :: .skip :: .skip :: .skip :: .skip :: .skip :: .val (.bool true) :: .val (.bool true) :: []) (by kernel_rfl) (Nat.le_refl _) ((by exact trivial))
          ⟨fun a w R => ld_P (R.slot 4 rfl) (R.keep ow4 trivial) rfl rfl, fun a w R => ld_P (R.slot 6 rfl) (R.keep ow6 trivial) rfl rfl, fun a w R => ld_P (R.slot 7 rfl) (R.keep ow7 trivial) rfl rfl, fun a w R => cl_ttt (enter_at Try.func53) (R.val 0) (R.val 1) (R.val 2) (ROn_is (in4_iff.1 hin_.out).1 (in4_iff.1 hin_.out).2.2.1 (in4_iff.1 hin_.out).2.2.2 t3_.out _), fun a w R => mv (R.val 3), fun a w R => True.intro, fun a w R => True.intro, fun a w R => True.intro, fun a w R => True.intro, fun a w R => picko (R.val 4) (R.goneS 8), fun a w R => mv (R.val 9), fun a w R => True.intro, fun a w R => True.intro, fun a w R => True.intro, fun a w R => True.intro, fun a w R => picko (R.val 10) (R.goneS 14), fun a w R => mv (R.val 15), fun a w R => True.intro, fun a w R => True.intro, fun a w R => True.intro, fun a w R => True.intro, fun a w R => picko (R.val 16) (R.goneS 20), fun a w R => mv (R.val 21), fun a w R => True.intro, fun a w R => True.intro, fun a w R => True.intro, fun a w R => True.intro, fun a w R => True.intro, fun a w R => True.intro, fun a w R => True.intro, fun a w R => True.intro, fun a w R => True.intro, fun a w R => True.intro, fun a w R => picko (R.val 22) (R.goneS 32), fun a w R => asg (R.val 33), trivial⟩ (fun act_ W2 I => ?_)
        rw [I.act [(22, .agg #[.int .i64 a1, .int .i64 a2]), (23, .agg #[.int .i64 c1, .int .i64 c2]), (24, .agg #[.int .i64 d1, .int .i64 d2]), (25, .bool true), (26, .bool true), (27, undef), (28, undef), (29, undef), (30, undef), (31, .bool true), (32, .bool true), (33, undef), (34, undef), (35, undef), (36, undef), (37, .bool true), (38, .bool true), (39, undef), (40, undef), (41, undef), (42, undef), (43, .bool true), (44, .bool true), (45, undef), (46, undef), (47, undef), (48, undef), (49, undef), (50, undef), (51, undef), (52, undef), (53, undef), (54, undef), (55, .bool true), (8, .bool true)]
          ⟨I.val 0, I.val 1, I.val 2, I.val 3, I.val 4, I.gone 5, I.gone 6, I.gone 7, I.gone 8, I.val 9, I.val 10, I.gone 11, I.gone 12, I.gone 13, I.gone 14, I.val 15, I.val 16, I.gone 17, I.gone 18, I.gone 19, I.gone 20, I.val 21, I.val 22, I.gone 23, I.gone 24, I.gone 25, I.gone 26, I.gone 27, I.gone 28, I.gone 29, I.gone 30, I.gone 31, I.gone 32, I.val 33, I.val 34, trivial⟩ rfl]
        have sW2 : W1.heap.size ≤ W2.heap.size := I.below.size
        replace ow4 := I.keep ow4 trivial
        replace ow5 := I.keep ow5 trivial
        replace ow6 := I.keep ow6 trivial
        replace ow7 := I.keep ow7 trivial
        have hW2 : Bel w.heap.size w W2 := thenB hW1 I.below hW1.size
        clear I
        simp only [List.foldl_cons, List.foldl_nil, List.setIfInBounds_toArray, List.set_cons_zero, List.set_cons_succ]
        clear ow4 ow5 ow6 ow7
        go_wp2
        try simp only [setCell_drawn]
        refine bodyPost_ret (by first | (simp [results, Try.results54, go_sem]; done) | (simp [results, Try.results54, go_sem]; rfl)) rfl ⟨?_, hW2⟩
        refine retb_eq ?_; simp only [rmB, t1_.out, t2_.out, t3_.out]; rfl
      · have t3_ := Lib.hid t3
        clear t3
        rcases Bool.eq_false_or_eq_true (roB b1 b2 c1 c2 d1 d2) with t4 | t4
        · have t4_ := Lib.hid t4
          clear t4
          go_upto_region 2 with fail
          refine region_memo_f (B := W1.heap.size) (L := .val (.agg #[.int .i64 a1, .int .i64 a2]) :: .val (.agg #[.int .i64 c1, .int .i64 c2]) :: .val (.agg #[.int .i64 d1, .int .i64 d2]) :: .val (.bool false) :: .val (.bool false) :: .val (.agg #[.int .i64 b1, .int .i64 b2]) :: .val (.agg #[.int .i64 c1, .int .i64 c2]) :: .val (.agg #[.int .i64 d1, .int .i64 d2]) :: .val (.bool true) :: .val (.bool true) :: .val (.bool true) :: .skip :: .skip :: .skip :: .skip :: .val (.bool true) :: .val (.bool true) :: .skip :: .skip :: .skip :: .skip :: .val (.bool true) :: .val (.bool true) :: .skip :: .skip :: .skip :: .skip :: .skip :: .skip :: .skip :: .skip :: .skip :: .skip :: .val (.bool true) :: .val (.bool true) :: []) (by kernel_rfl) (Nat.le_refl _) ((by exact trivial))
            ⟨fun a w R => ld_P (R.slot 4 rfl) (R.keep ow4 trivial) rfl rfl, fun a w R => ld_P (R.slot 6 rfl) (R.keep ow6 trivial) rfl rfl, fun a w R => ld_P (R.slot 7 rfl) (R.keep ow7 trivial) rfl rfl, fun a w R => cl_ttt (enter_at Try.func53) (R.val 0) (R.val 1) (R.val 2) (ROn_is (in4_iff.1 hin_.out).1 (in4_iff.1 hin_.out).2.2.1 (in4_iff.1 hin_.out).2.2.2 t3_.out _), fun a w R => mv (R.val 3), fun a w R => ld_P (R.slot 5 rfl) (R.keep ow5 trivial) rfl rfl, fun a w R => ld_P (R.slot 6 rfl) (R.keep ow6 trivial) rfl rfl, fun a w R => ld_P (R.slot 7 rfl) (R.keep ow7 trivial) rfl rfl, fun a w R => cl_ttt (enter_at Try.func53) (R.val 5) (R.val 6) (R.val 7) (ROn_is (in4_iff.1 hin_.out).2.1 (in4_iff.1 hin_.out).2.2.1 (in4_iff.1 hin_.out).2.2.2 t4_.out _), fun a w R => pickn (R.val 4) (R.val 8), fun a w R => mv (R.val 9), fun a w R => True.intro, fun a w R => True.intro, fun a w R => True.intro, fun a w R => True.intro, fun a w R => picko (R.val 10) (R.goneS 14), fun a w R => mv (R.val 15), fun a w R => True.intro, fun a w R => True.intro, fun a w R => True.intro, fun a w R => True.intro, fun a w R => picko (R.val 16) (R.goneS 20), fun a w R => mv (R.val 21), fun a w R => True.intro, fun a w R => True.intro, fun a w R => True.intro, fun a w R => True.intro, fun a w R => True.intro, fun a w R => True.intro, fun a w R => True.intro, fun a w R => True.intro, fun a w R => True.intro, fun a w R => True.intro, fun a w R => picko (R.val 22) (R.goneS 32), fun a w R => asg (R.val 33), trivial⟩ (fun act_ W2 I => ?_)
          rw [I.act [(22, .agg #[.int .i64 a1, .int .i64 a2]), (23, .agg #[.int .i64 c1, .int .i64 c2]), (24, .agg #[.int .i64 d1, .int .i64 d2]), (25, .bool false), (26, .bool false), (27, .agg #[.int .i64 b1, .int .i64 b2]), (28, .agg #[.int .i64 c1, .int .i64 c2]), (29, .agg #[.int .i64 d1, .int .i64 d2]), (30, .bool true), (31, .bool true), (32, .bool true), (33, undef), (34, undef), (35, undef), (36, undef), (37, .bool true), (38, .bool true), (39, undef), (40, undef), (41, undef), (42, undef), (43, .bool true), (44, .bool true), (45, undef), (46, undef), (47, undef), (48, undef), (49, undef), (50, undef), (51, undef), (52, undef), (53, undef), (54, undef), (55, .bool true), (8, .bool true)]
            ⟨I.val 0, I.val 1, I.val 2, I.val 3, I.val 4, I.val 5, I.val 6, I.val 7, I.val 8, I.val 9, I.val 10, I.gone 11, I.gone 12, I.gone 13, I.gone 14, I.val 15, I.val 16, I.gone 17, I.gone 18, I.gone 19, I.gone 20, I.val 21, I.val 22, I.gone 23, I.gone 24, I.gone 25, I.gone 26, I.gone 27, I.gone 28, I.gone 29, I.gone 30, I.gone 31, I.gone 32, I.val 33, I.val 34, trivial⟩ rfl]
          have sW2 : W1.heap.size ≤ W2.heap.size := I.below.size
          replace ow4 := I.keep ow4 trivial
          replace ow5 := I.keep ow5 trivial
          replace ow6 := I.keep ow6 trivial
          replace ow7 := I.keep ow7 trivial
          have hW2 : Bel w.heap.size w W2 := thenB hW1 I.below hW1.size
          clear I
          simp only [List.foldl_cons, List.foldl_nil, List.setIfInBounds_toArray, List.set_cons_zero, List.set_cons_succ]
          clear ow4 ow5 ow6 ow7
          go_wp2
          try simp only [setCell_drawn]
          refine bodyPost_ret (by first | (simp [results, Try.results54, go_sem]; done) | (simp [results, Try.results54, go_sem]; rfl)) rfl ⟨?_, hW2⟩
          refine retb_eq ?_; simp only [rmB, t1_.out, t2_.out, t3_.out, t4_.out]; rfl
        · have t4_ := Lib.hid t4
          clear t4
          rcases Bool.eq_false_or_eq_true (roB c1 c2 a1 a2 b1 b2) with t5 | t5
          · have t5_ := Lib.hid t5
            clear t5
            go_upto_region 2 with fail
            refine region_memo_f (B := W1.heap.size) (L := .val (.agg #[.int .i64 a1, .int .i64 a2]) :: .val (.agg #[.int .i64 c1, .int .i64 c2]) :: .val (.agg #[.int .i64 d1, .int .i64 d2]) :: .val (.bool false) :: .val (.bool false) :: .val (.agg #[.int .i64 b1, .int .i64 b2]) :: .val (.agg #[.int .i64 c1, .int .i64 c2]) :: .val (.agg #[.int .i64 d1, .int .i64 d2]) :: .val (.bool false) :: .val (.bool false) :: .val (.bool false) :: .val (.agg #[.int .i64 c1, .int .i64 c2]) :: .val (.agg #[.int .i64 a1, .int .i64 a2]) :: .val (.agg #[.int .i64 b1, .int .i64 b2]) :: .val (.bool true) :: .val (.bool true) :: .val (.bool true) :: .skip :: .skip :: .skip :: .skip :: .val (.bool true) :: .val (.bool true) :: .skip :: .skip :: .skip :: .skip :: .skip :: .skip :: .skip :: .skip :: .skip :: .skip :: .val (.bool true) :: .val (.bool true) :: []) (by kernel_rfl) (Nat.le_refl _) ((by exact trivial))
              ⟨fun a w R => ld_P (R.slot 4 rfl) (R.keep ow4 trivial) rfl rfl, fun a w R => ld_P (R.slot 6 rfl) (R.keep ow6 trivial) rfl rfl, fun a w R => ld_P (R.slot 7 rfl) (R.keep ow7 trivial) rfl rfl, fun a w R => cl_ttt (enter_at Try.func53) (R.val 0) (R.val 1) (R.val 2) (ROn_is (in4_iff.1 hin_.out).1 (in4_iff.1 hin_.out).2.2.1 (in4_iff.1 hin_.out).2.2.2 t3_.out _), fun a w R => mv (R.val 3), fun a w R => ld_P (R.slot 5 rfl) (R.keep ow5 trivial) rfl rfl, fun a w R => ld_P (R.slot 6 rfl) (R.keep ow6 trivial) rfl rfl, fun a w R => ld_P (R.slot 7 rfl) (R.keep ow7 trivial) rfl rfl, fun a w R => cl_ttt (enter_at Try.func53) (R.val 5) (R.val 6) (R.val 7) (ROn_is (in4_iff.1 hin_.out).2.1 (in4_iff.1 hin_.out).2.2.1 (in4_iff.1 hin_.out).2.2.2 t4_.out _), fun a w R => pickn (R.val 4) (R.val 8), fun a w R => mv (R.val 9), fun a w R => ld_P (R.slot 6 rfl) (R.keep ow6 trivial) rfl rfl, fun a w R => ld_P (R.slot 4 rfl) (R.keep ow4 trivial) rfl rfl, fun a w R => ld_P (R.slot 5 rfl) (R.keep ow5 trivial) rfl rfl, fun a w R => cl_ttt (enter_at Try.func53) (R.val 11) (R.val 12) (R.val 13) (ROn_is (in4_iff.1 hin_.out).2.2.1 (in4_iff.1 hin_.out).1 (in4_iff.1 hin_.out).2.1 t5_.out _), fun a w R => pickn (R.val 10) (R.val 14), fun a w R => mv (R.val 15), fun a w R => True.intro, fun a w R => True.intro, fun a w R => True.intro, fun a w R => True.intro, fun a w R => picko (R.val 16) (R.goneS 20), fun a w R => mv (R.val 21), fun a w R => True.intro, fun a w R => True.intro, fun a w R => True.intro, fun a w R => True.intro, fun a w R => True.intro, fun a w R => True.intro, fun a w R => True.intro, fun a w R => True.intro, fun a w R => True.intro, fun a w R => True.intro, fun a w R => picko (R.val 22) (R.goneS 32), fun a w R => asg (R.val 33), trivial⟩ (fun act_ W2 I => ?_)
            rw [I.act [(22, .agg #[.int .i64 a1, .int .i64 a2]), (23, .agg #[.int .i64 c1, .int .i64 c2]), (24, .agg #[.int .i64 d1, .int .i64 d2]), (25, .bool false), (26, .bool false), (27, .agg #[.int .i64 b1, .int .i64 b2]), (28, .agg #[.int .i64 c1, .int .i64 c2]), (29, .agg #[.int .i64 d1, .int .i64 d2]), (30, .bool false), (31, .bool false), (32, .bool false), (33, .agg #[.int .i64 c1, .int .i64 c2]), (34, .agg #[.int .i64 a1, .int .i64 a2]), (35, .agg #[.int .i64 b1, .int .i64 b2]), (36, .bool true), (37, .bool true), (38, .bool true), (39, undef), (40, undef), (41, undef), (42, undef), (43, .bool true), (44, .bool true), (45, undef), (46, undef), (47, undef), (48, undef), (49, undef), (50, undef), (51, undef), (52, undef), (53, undef), (54, undef), (55, .bool true), (8, .bool true)]
              ⟨I.val 0, I.val 1, I.val 2, I.val 3, I.val 4, I.val 5, I.val 6, I.val 7, I.val 8, I.val 9, I.val 10, I.val 11, I.val 12, I.val 13, I.val 14, I.val 15, I.val 16, I.gone 17, I.gone 18, I.gone 19, I.gone 20, I.val 21, I.val 22, I.gone 23, I.gone 24, I.gone 25, I.gone 26, I.gone 27, I.gone 28, I.gone 29, I.gone 30, I.gone 31, I.gone 32, I.val 33, I.val 34, trivial⟩ rfl]
            have sW2 : W1.heap.size ≤ W2.heap.size := I.below.size
            replace ow4 := I.keep ow4 trivial
            replace ow5 := I.keep ow5 trivial
            replace ow6 := I.keep ow6 trivial
            replace ow7 := I.keep ow7 trivial
            have hW2 : Bel w.heap.size w W2 := thenB hW1 I.below hW1.size
            clear I
            simp only [List.foldl_cons, List.foldl_nil, List.setIfInBounds_toArray, List.set_cons_zero, List.set_cons_succ]
            clear ow4 ow5 ow6 ow7
            go_wp2
            try simp only [setCell_drawn]
            refine bodyPost_ret (by first | (simp [results, Try.results54, go_sem]; done) | (simp [results, Try.results54, go_sem]; rfl)) rfl ⟨?_, hW2⟩
            refine retb_eq ?_; simp only [rmB, t1_.out, t2_.out, t3_.out, t4_.out, t5_.out]; rfl
          · have t5_ := Lib.hid t5
            clear t5
            rcases Bool.eq_false_or_eq_true (roB d1 d2 a1 a2 b1 b2) with t6 | t6
            · have t6_ := Lib.hid t6
              clear t6
              go_upto_region 2 with fail
              refine region_memo_f (B := W1.heap.size) (L := .val (.agg #[.int .i64 a1, .int .i64 a2]) :: .val (.agg #[.int .i64 c1, .int .i64 c2]) :: .val (.agg #[.int .i64 d1, .int .i64 d2]) :: .val (.bool false) :: .val (.bool false) :: .val (.agg #[.int .i64 b1, .int .i64 b2]) :: .val (.agg #[.int .i64 c1, .int .i64 c2]) :: .val (.agg #[.int .i64 d1, .int .i64 d2]) :: .val (.bool false) :: .val (.bool false) :: .val (.bool false) :: .val (.agg #[.int .i64 c1, .int .i64 c2]) :: .val (.agg #[.int .i64 a1, .int .i64 a2]) :: .val (.agg #[.int .i64 b1, .int .i64 b2]) :: .val (.bool false) :: .val (.bool false) :: .val (.bool false) :: .val (.agg #[.int .i64 d1, .int .i64 d2]) :: .val (.agg #[.int .i64 a1, .int .i64 a2]) :: .val (.agg #[.int .i64 b1, .int .i64 b2]) :: .val (.bool true) :: .val (.bool true) :: .val (.bool true) :: .skip :: .skip :: .skip :: .skip :: .skip :: .skip :: .skip :: .skip :: .skip :: .skip :: .val (.bool true) :: .val (.bool true) :: []) (by kernel_rfl) (Nat.le_refl _) ((by exact trivial))
                ⟨fun a w R => ld_P (R.slot 4 rfl) (R.keep ow4 trivial) rfl rfl, fun a w R => ld_P (R.slot 6 rfl) (R.keep ow6 trivial) rfl rfl, fun a w R => ld_P (R.slot 7 rfl) (R.keep ow7 trivial) rfl rfl, fun a w R => cl_ttt (enter_at Try.func53) (R.val 0) (R.val 1) (R.val 2) (ROn_is (in4_iff.1 hin_.out).1 (in4_iff.1 hin_.out).2.2.1 (in4_iff.1 hin_.out).2.2.2 t3_.out _), fun a w R => mv (R.val 3), fun a w R => ld_P (R.slot 5 rfl) (R.keep ow5 trivial) rfl rfl, fun a w R => ld_P (R.slot 6 rfl) (R.keep ow6 trivial) rfl rfl, fun a w R => ld_P (R.slot 7 rfl) (R.keep ow7 trivial) rfl rfl, fun a w R => cl_ttt (enter_at Try.func53) (R.val 5) (R.val 6) (R.val 7) (ROn_is (in4_iff.1 hin_.out).2.1 (in4_iff.1 hin_.out).2.2.1 (in4_iff.1 hin_.out).2.2.2 t4_.out _), fun a w R => pickn (R.val 4) (R.val 8), fun a w R => mv (R.val 9), fun a w R => ld_P (R.slot 6 rfl) (R.keep ow6 trivial) rfl rfl, fun a w R => ld_P (R.slot 4 rfl) (R.keep ow4 trivial) rfl rfl, fun a w R => ld_P (R.slot 5 rfl) (R.keep ow5 trivial) rfl rfl, fun a w R => cl_ttt (enter_at Try.func53) (R.val 11) (R.val 12) (R.val 13) (ROn_is (in4_iff.1 hin_.out).2.2.1 (in4_iff.1 hin_.out).1 (in4_iff.1 hin_.out).2.1 t5_.out _), fun a w R => pickn (R.val 10) (R.val 14), fun a w R => mv (R.val 15), fun a w R => ld_P (R.slot 7 rfl) (R.keep ow7 trivial) rfl rfl, fun a w R => ld_P (R.slot 4 rfl) (R.keep ow4 trivial) rfl rfl, fun a w R => ld_P (R.slot 5 rfl) (R.keep ow5 trivial) rfl rfl, fun a w R => cl_ttt (enter_at Try.func53) (R.val 17) (R.val 18) (R.val 19) (ROn_is (in4_iff.1 hin_.out).2.2.2 (in4_iff.1 hin_.out).1 (in4_iff.1 hin_.out).2.1 t6_.out _), fun a w R => pickn (R.val 16) (R.val 20), fun a w R => mv (R.val 21), fun a w R => True.intro, fun a w R => True.intro, fun a w R => True.intro, fun a w R => True.intro, fun a w R => True.intro, fun a w R => True.intro, fun a w R => True.intro, fun a w R => True.intro, fun a w R => True.intro, fun a w R => True.intro, fun a w R => picko (R.val 22) (R.goneS 32), fun a w R => asg (R.val 33), trivial⟩ (fun act_ W2 I => ?_)
              rw [I.act [(22, .agg #[.int .i64 a1, .int .i64 a2]), (23, .agg #[.int .i64 c1, .int .i64 c2]), (24, .agg #[.int .i64 d1, .int .i64 d2]), (25, .bool false), (26, .bool false), (27, .agg #[.int .i64 b1, .int .i64 b2]), (28, .agg #[.int .i64 c1, .int .i64 c2]), (29, .agg #[.int .i64 d1, .int .i64 d2]), (30, .bool false), (31, .bool false), (32, .bool false), (33, .agg #[.int .i64 c1, .int .i64 c2]), (34, .agg #[.int .i64 a1, .int .i64 a2]), (35, .agg #[.int .i64 b1, .int .i64 b2]), (36, .bool false), (37, .bool false), (38, .bool false), (39, .agg #[.int .i64 d1, .int .i64 d2]), (40, .agg #[.int .i64 a1, .int .i64 a2]), (41, .agg #[.int .i64 b1, .int .i64 b2]), (42, .bool true), (43, .bool true), (44, .bool true), (45, undef), (46, undef), (47, undef), (48, undef), (49, undef), (50, undef), (51, undef), (52, undef), (53, undef), (54, undef), (55, .bool true), (8, .bool true)]
                ⟨I.val 0, I.val 1, I.val 2, I.val 3, I.val 4, I.val 5, I.val 6, I.val 7, I.val 8, I.val 9, I.val 10, I.val 11, I.val 12, I.val 13, I.val 14, I.val 15, I.val 16, I.val 17, I.val 18, I.val 19, I.val 20, I.val 21, I.val 22, I.gone 23, I.gone 24, I.gone 25, I.gone 26, I.gone 27, I.gone 28, I.gone 29, I.gone 30, I.gone 31, I.gone 32, I.val 33, I.val 34, trivial⟩ rfl]
              have sW2 : W1.heap.size ≤ W2.heap.size := I.below.size
              replace ow4 := I.keep ow4 trivial
              replace ow5 := I.keep ow5 trivial
              replace ow6 := I.keep ow6 trivial
              replace ow7 := I.keep ow7 trivial
              have hW2 : Bel w.heap.size w W2 := thenB hW1 I.below hW1.size
              clear I
              simp only [List.foldl_cons, List.foldl_nil, List.setIfInBounds_toArray, List.set_cons_zero, List.set_cons_succ]
              clear ow4 ow5 ow6 ow7
              go_wp2
              try simp only [setCell_drawn]
              refine bodyPost_ret (by first | (simp [results, Try.results54, go_sem]; done) | (simp [results, Try.results54, go_sem]; rfl)) rfl ⟨?_, hW2⟩
              refine retb_eq ?_; simp only [rmB, t1_.out, t2_.out, t3_.out, t4_.out, t5_.out, t6_.out]; rfl
            · have t6_ := Lib.hid t6
              clear t6
              rcases Bool.eq_false_or_eq_true (wiB a1 a2 c1 c2 d1 d2) with t7 | t7
              · have t7_ := Lib.hid t7
                clear t7
                rcases Bool.eq_false_or_eq_true (wiB b1 b2 c1 c2 d1 d2) with t8 | t8
                · have t8_ := Lib.hid t8
                  clear t8
                  go_upto_region 2 with fail
                  refine region_memo_f (B := W1.heap.size) (L := .val (.agg #[.int .i64 a1, .int .i64 a2]) :: .val (.agg #[.int .i64 c1, .int .i64 c2]) :: .val (.agg #[.int .i64 d1, .int .i64 d2]) :: .val (.bool false) :: .val (.bool false) :: .val (.agg #[.int .i64 b1, .int .i64 b2]) :: .val (.agg #[.int .i64 c1, .int .i64 c2]) :: .val (.agg #[.int .i64 d1, .int .i64 d2]) :: .val (.bool false) :: .val (.bool false) :: .val (.bool false) :: .val (.agg #[.int .i64 c1, .int .i64 c2]) :: .val (.agg #[.int .i64 a1, .int .i64 a2]) :: .val (.agg #[.int .i64 b1, .int .i64 b2]) :: .val (.bool false) :: .val (.bool false) :: .val (.bool false) :: .val (.agg #[.int .i64 d1, .int .i64 d2]) :: .val (.agg #[.int .i64 a1, .int .i64 a2]) :: .val (.agg #[.int .i64 b1, .int .i64 b2]) :: .val (.bool false) :: .val (.bool false) :: .val (.bool false) :: .val (.agg #[.int .i64 a1, .int .i64 a2]) :: .val (.agg #[.int .i64 c1, .int .i64 c2]) :: .val (.agg #[.int .i64 d1, .int .i64 d2]) :: .val (.bool true) :: .val (.bool true) :: .val (.agg #[.int .i64 b1, .int .i64 b2]) :: .val (.agg #[.int .i64 c1, .int .i64 c2]) :: .val (.agg #[.int .i64 d1, .int .i64 d2]) :: .val (.bool true) :: .val (.bool true) :: .val (.bool true) :: .val (.bool true) :: []) (by kernel_rfl) (Nat.le_refl _) ((by exact trivial))
                    ⟨fun a w R => ld_P (R.slot 4 rfl) (R.keep ow4 trivial) rfl rfl, fun a w R => ld_P (R.slot 6 rfl) (R.keep ow6 trivial) rfl rfl, fun a w R => ld_P (R.slot 7 rfl) (R.keep ow7 trivial) rfl rfl, fun a w R => cl_ttt (enter_at Try.func53) (R.val 0) (R.val 1) (R.val 2) (ROn_is (in4_iff.1 hin_.out).1 (in4_iff.1 hin_.out).2.2.1 (in4_iff.1 hin_.out).2.2.2 t3_.out _), fun a w R => mv (R.val 3), fun a w R => ld_P (R.slot 5 rfl) (R.keep ow5 trivial) rfl rfl, fun a w R => ld_P (R.slot 6 rfl) (R.keep ow6 trivial) rfl rfl, fun a w R => ld_P (R.slot 7 rfl) (R.keep ow7 trivial) rfl rfl, fun a w R => cl_ttt (enter_at Try.func53) (R.val 5) (R.val 6) (R.val 7) (ROn_is (in4_iff.1 hin_.out).2.1 (in4_iff.1 hin_.out).2.2.1 (in4_iff.1 hin_.out).2.2.2 t4_.out _), fun a w R => pickn (R.val 4) (R.val 8), fun a w R => mv (R.val 9), fun a w R => ld_P (R.slot 6 rfl) (R.keep ow6 trivial) rfl rfl, fun a w R => ld_P (R.slot 4 rfl) (R.keep ow4 trivial) rfl rfl, fun a w R => ld_P (R.slot 5 rfl) (R.keep ow5 trivial) rfl rfl, fun a w R => cl_ttt (enter_at Try.func53) (R.val 11) (R.val 12) (R.val 13) (ROn_is (in4_iff.1 hin_.out).2.2.1 (in4_iff.1 hin_.out).1 (in4_iff.1 hin_.out).2.1 t5_.out _), fun a w R => pickn (R.val 10) (R.val 14), fun a w R => mv (R.val 15), fun a w R => ld_P (R.slot 7 rfl) (R.keep ow7 trivial) rfl rfl, fun a w R => ld_P (R.slot 4 rfl) (R.keep ow4 trivial) rfl rfl, fun a w R => ld_P (R.slot 5 rfl) (R.keep ow5 trivial) rfl rfl, fun a w R => cl_ttt (enter_at Try.func53) (R.val 17) (R.val 18) (R.val 19) (ROn_is (in4_iff.1 hin_.out).2.2.2 (in4_iff.1 hin_.out).1 (in4_iff.1 hin_.out).2.1 t6_.out _), fun a w R => pickn (R.val 16) (R.val 20), fun a w R => mv (R.val 21), fun a w R => ld_P (R.slot 4 rfl) (R.keep ow4 trivial) rfl rfl, fun a w R => ld_P (R.slot 6 rfl) (R.keep ow6 trivial) rfl rfl, fun a w R => ld_P (R.slot 7 rfl) (R.keep ow7 trivial) rfl rfl, fun a w R => cl_ttt (enter_at Try.func72) (R.val 23) (R.val 24) (R.val 25) (Within_is (in4_iff.1 hin_.out).1 (in4_iff.1 hin_.out).2.2.1 (in4_iff.1 hin_.out).2.2.2 t7_.out _), fun a w R => mv (R.val 26), fun a w R => ld_P (R.slot 5 rfl) (R.keep ow5 trivial) rfl rfl, fun a w R => ld_P (R.slot 6 rfl) (R.keep ow6 trivial) rfl rfl, fun a w R => ld_P (R.slot 7 rfl) (R.keep ow7 trivial) rfl rfl, fun a w R => cl_ttt (enter_at Try.func72) (R.val 28) (R.val 29) (R.val 30) (Within_is (in4_iff.1 hin_.out).2.1 (in4_iff.1 hin_.out).2.2.1 (in4_iff.1 hin_.out).2.2.2 t8_.out _), fun a w R => pickt (R.val 27) (R.val 31), fun a w R => pickn (R.val 22) (R.val 32), fun a w R => asg (R.val 33), trivial⟩ (fun act_ W2 I => ?_)
                  rw [I.act [(22, .agg #[.int .i64 a1, .int .i64 a2]), (23, .agg #[.int .i64 c1, .int .i64 c2]), (24, .agg #[.int .i64 d1, .int .i64 d2]), (25, .bool false), (26, .bool false), (27, .agg #[.int .i64 b1, .int .i64 b2]), (28, .agg #[.int .i64 c1, .int .i64 c2]), (29, .agg #[.int .i64 d1, .int .i64 d2]), (30, .bool false), (31, .bool false), (32, .bool false), (33, .agg #[.int .i64 c1, .int .i64 c2]), (34, .agg #[.int .i64 a1, .int .i64 a2]), (35, .agg #[.int .i64 b1, .int .i64 b2]), (36, .bool false), (37, .bool false), (38, .bool false), (39, .agg #[.int .i64 d1, .int .i64 d2]), (40, .agg #[.int .i64 a1, .int .i64 a2]), (41, .agg #[.int .i64 b1, .int .i64 b2]), (42, .bool false), (43, .bool false), (44, .bool false), (45, .agg #[.int .i64 a1, .int .i64 a2]), (46, .agg #[.int .i64 c1, .int .i64 c2]), (47, .agg #[.int .i64 d1, .int .i64 d2]), (48, .bool true), (49, .bool true), (50, .agg #[.int .i64 b1, .int .i64 b2]), (51, .agg #[.int .i64 c1, .int .i64 c2]), (52, .agg #[.int .i64 d1, .int .i64 d2]), (53, .bool true), (54, .bool true), (55, .bool true), (8, .bool true)]
                    ⟨I.val 0, I.val 1, I.val 2, I.val 3, I.val 4, I.val 5, I.val 6, I.val 7, I.val 8, I.val 9, I.val 10, I.val 11, I.val 12, I.val 13, I.val 14, I.val 15, I.val 16, I.val 17, I.val 18, I.val 19, I.val 20, I.val 21, I.val 22, I.val 23, I.val 24, I.val 25, I.val 26, I.val 27, I.val 28, I.val 29, I.val 30, I.val 31, I.val 32, I.val 33, I.val 34, trivial⟩ rfl]
                  have sW2 : W1.heap.size ≤ W2.heap.size := I.below.size
                  replace ow4 := I.keep ow4 trivial
                  replace ow5 := I.keep ow5 trivial
                  replace ow6 := I.keep ow6 trivial
                  replace ow7 := I.keep ow7 trivial
                  have hW2 : Bel w.heap.size w W2 := thenB hW1 I.below hW1.size
                  clear I
                  simp only [List.foldl_cons, List.foldl_nil, List.setIfInBounds_toArray, List.set_cons_zero, List.set_cons_succ]
                  clear ow4 ow5 ow6 ow7
                  go_wp2
                  try simp only [setCell_drawn]
                  refine bodyPost_ret (by first | (simp [results, Try.results54, go_sem]; done) | (simp [results, Try.results54, go_sem]; rfl)) rfl ⟨?_, hW2⟩
                  refine retb_eq ?_; simp only [rmB, t1_.out, t2_.out, t3_.out, t4_.out, t5_.out, t6_.out, t7_.out, t8_.out]; rfl
                · have t8_ := Lib.hid t8
                  clear t8
                  go_upto_region 2 with fail
                  refine region_memo_f (B := W1.heap.size) (L := .val (.agg #[.int .i64 a1, .int .i64 a2]) :: .val (.agg #[.int .i64 c1, .int .i64 c2]) :: .val (.agg #[.int .i64 d1, .int .i64 d2]) :: .val (.bool false) :: .val (.bool false) :: .val (.agg #[.int .i64 b1, .int .i64 b2]) :: .val (.agg #[.int .i64 c1, .int .i64 c2]) :: .val (.agg #[.int .i64 d1, .int .i64 d2]) :: .val (.bool false) :: .val (.bool false) :: .val (.bool false) :: .val (.agg #[.int .i64 c1, .int .i64 c2]) :: .val (.agg #[.int .i64 a1, .int .i64 a2]) :: .val (.agg #[.int .i64 b1, .int .i64 b2]) :: .val (.bool false) :: .val (.bool false) :: .val (.bool false) :: .val (.agg #[.int .i64 d1, .int .i64 d2]) :: .val (.agg #[.int .i64 a1, .int .i64 a2]) :: .val (.agg #[.int .i64 b1, .int .i64 b2]) :: .val (.bool false) :: .val (.bool false) :: .val (.bool false) :: .val (.agg #[.int .i64 a1, .int .i64 a2]) :: .val (.agg #[.int .i64 c1, .int .i64 c2]) :: .val (.agg #[.int .i64 d1, .int .i64 d2]) :: .val (.bool true) :: .val (.bool true) :: .val (.agg #[.int .i64 b1, .int .i64 b2]) :: .val (.agg #[.int .i64 c1, .int .i64 c2]) :: .val (.agg #[.int .i64 d1, .int .i64 d2]) :: .val (.bool false) :: .val (.bool false) :: .val (.bool false) :: .val (.bool false) :: []) (by kernel_rfl) (Nat.le_refl _) ((by exact trivial))
                    ⟨fun a w R => ld_P (R.slot 4 rfl) (R.keep ow4 trivial) rfl rfl, fun a w R => ld_P (R.slot 6 rfl) (R.keep ow6 trivial) rfl rfl, fun a w R => ld_P (R.slot 7 rfl) (R.keep ow7 trivial) rfl rfl, fun a w R => cl_ttt (enter_at Try.func53) (R.val 0) (R.val 1) (R.val 2) (ROn_is (in4_iff.1 hin_.out).1 (in4_iff.1 hin_.out).2.2.1 (in4_iff.1 hin_.out).2.2.2 t3_.out _), fun a w R => mv (R.val 3), fun a w R => ld_P (R.slot 5 rfl) (R.keep ow5 trivial) rfl rfl, fun a w R => ld_P (R.slot 6 rfl) (R.keep ow6 trivial) rfl rfl, fun a w R => ld_P (R.slot 7 rfl) (R.keep ow7 trivial) rfl rfl, fun a w R => cl_ttt (enter_at Try.func53) (R.val 5) (R.val 6) (R.val 7) (ROn_is (in4_iff.1 hin_.out).2.1 (in4_iff.1 hin_.out).2.2.1 (in4_iff.1 hin_.out).2.2.2 t4_.out _), fun a w R => pickn (R.val 4) (R.val 8), fun a w R => mv (R.val 9), fun a w R => ld_P (R.slot 6 rfl) (R.keep ow6 trivial) rfl rfl, fun a w R => ld_P (R.slot 4 rfl) (R.keep ow4 trivial) rfl rfl, fun a w R => ld_P (R.slot 5 rfl) (R.keep ow5 trivial) rfl rfl, fun a w R => cl_ttt (enter_at Try.func53) (R.val 11) (R.val 12) (R.val 13) (ROn_is (in4_iff.1 hin_.out).2.2.1 (in4_iff.1 hin_.out).1 (in4_iff.1 hin_.out).2.1 t5_.out _), fun a w R => pickn (R.val 10) (R.val 14), fun a w R => mv (R.val 15), fun a w R => ld_P (R.slot 7 rfl) (R.keep ow7 trivial) rfl rfl, fun a w R => ld_P (R.slot 4 rfl) (R.keep ow4 trivial) rfl rfl, fun a w R => ld_P (R.slot 5 rfl) (R.keep ow5 trivial) rfl rfl, fun a w R => cl_ttt (enter_at Try.func53) (R.val 17) (R.val 18) (R.val 19) (ROn_is (in4_iff.1 hin_.out).2.2.2 (in4_iff.1 hin_.out).1 (in4_iff.1 hin_.out).2.1 t6_.out _), fun a w R => pickn (R.val 16) (R.val 20), fun a w R => mv (R.val 21), fun a w R => ld_P (R.slot 4 rfl) (R.keep ow4 trivial) rfl rfl, fun a w R => ld_P (R.slot 6 rfl) (R.keep ow6 trivial) rfl rfl, fun a w R => ld_P (R.slot 7 rfl) (R.keep ow7 trivial) rfl rfl, fun a w R => cl_ttt (enter_at Try.func72) (R.val 23) (R.val 24) (R.val 25) (Within_is (in4_iff.1 hin_.out).1 (in4_iff.1 hin_.out).2.2.1 (in4_iff.1 hin_.out).2.2.2 t7_.out _), fun a w R => mv (R.val 26), fun a w R => ld_P (R.slot 5 rfl) (R.keep ow5 trivial) rfl rfl, fun a w R => ld_P (R.slot 6 rfl) (R.keep ow6 trivial) rfl rfl, fun a w R => ld_P (R.slot 7 rfl) (R.keep ow7 trivial) rfl rfl, fun a w R => cl_ttt (enter_at Try.func72) (R.val 28) (R.val 29) (R.val 30) (Within_is (in4_iff.1 hin_.out).2.1 (in4_iff.1 hin_.out).2.2.1 (in4_iff.1 hin_.out).2.2.2 t8_.out _), fun a w R => pickt (R.val 27) (R.val 31), fun a w R => pickn (R.val 22) (R.val 32), fun a w R => asg (R.val 33), trivial⟩ (fun act_ W2 I => ?_)
                  rw [I.act [(22, .agg #[.int .i64 a1, .int .i64 a2]), (23, .agg #[.int .i64 c1, .int .i64 c2]), (24, .agg #[.int .i64 d1, .int .i64 d2]), (25, .bool false), (26, .bool false), (27, .agg #[.int .i64 b1, .int .i64 b2]), (28, .agg #[.int .i64 c1, .int .i64 c2]), (29, .agg #[.int .i64 d1, .int .i64 d2]), (30, .bool false), (31, .bool false), (32, .bool false), (33, .agg #[.int .i64 c1, .int .i64 c2]), (34, .agg #[.int .i64 a1, .int .i64 a2]), (35, .agg #[.int .i64 b1, .int .i64 b2]), (36, .bool false), (37, .bool false), (38, .bool false), (39, .agg #[.int .i64 d1, .int .i64 d2]), (40, .agg #[.int .i64 a1, .int .i64 a2]), (41, .agg #[.int .i64 b1, .int .i64 b2]), (42, .bool false), (43, .bool false), (44, .bool false), (45, .agg #[.int .i64 a1, .int .i64 a2]), (46, .agg #[.int .i64 c1, .int .i64 c2]), (47, .agg #[.int .i64 d1, .int .i64 d2]), (48, .bool true), (49, .bool true), (50, .agg #[.int .i64 b1, .int .i64 b2]), (51, .agg #[.int .i64 c1, .int .i64 c2]), (52, .agg #[.int .i64 d1, .int .i64 d2]), (53, .bool false), (54, .bool false), (55, .bool false), (8, .bool false)]
                    ⟨I.val 0, I.val 1, I.val 2, I.val 3, I.val 4, I.val 5, I.val 6, I.val 7, I.val 8, I.val 9, I.val 10, I.val 11, I.val 12, I.val 13, I.val 14, I.val 15, I.val 16, I.val 17, I.val 18, I.val 19, I.val 20, I.val 21, I.val 22, I.val 23, I.val 24, I.val 25, I.val 26, I.val 27, I.val 28, I.val 29, I.val 30, I.val 31, I.val 32, I.val 33, I.val 34, trivial⟩ rfl]
                  have sW2 : W1.heap.size ≤ W2.heap.size := I.below.size
                  replace ow4 := I.keep ow4 trivial
                  replace ow5 := I.keep ow5 trivial
                  replace ow6 := I.keep ow6 trivial
                  replace ow7 := I.keep ow7 trivial
                  have hW2 : Bel w.heap.size w W2 := thenB hW1 I.below hW1.size
                  clear I
                  simp only [List.foldl_cons, List.foldl_nil, List.setIfInBounds_toArray, List.set_cons_zero, List.set_cons_succ]
                  clear ow4 ow5 ow6 ow7
                  go_wp2
                  try simp only [setCell_drawn]
                  refine bodyPost_ret (by first | (simp [results, Try.results54, go_sem]; done) | (simp [results, Try.results54, go_sem]; rfl)) rfl ⟨?_, hW2⟩
                  refine retb_eq ?_; simp only [rmB, t1_.out, t2_.out, t3_.out, t4_.out, t5_.out, t6_.out, t7_.out, t8_.out]; rfl
              · have t7_ := Lib.hid t7
                clear t7
                go_upto_region 2 with fail
                refine region_memo_f (B := W1.heap.size) (L := .val (.agg #[.int .i64 a1, .int .i64 a2]) :: .val (.agg #[.int .i64 c1, .int .i64 c2]) :: .val (.agg #[.int .i64 d1, .int .i64 d2]) :: .val (.bool false) :: .val (.bool false) :: .val (.agg #[.int .i64 b1, .int .i64 b2]) :: .val (.agg #[.int .i64 c1, .int .i64 c2]) :: .val (.agg #[.int .i64 d1, .int .i64 d2]) :: .val (.bool false) :: .val (.bool false) :: .val (.bool false) :: .val (.agg #[.int .i64 c1, .int .i64 c2]) :: .val (.agg #[.int .i64 a1, .int .i64 a2]) :: .val (.agg #[.int .i64 b1, .int .i64 b2]) :: .val (.bool false) :: .val (.bool false) :: .val (.bool false) :: .val (.agg #[.int .i64 d1, .int .i64 d2]) :: .val (.agg #[.int .i64 a1, .int .i64 a2]) :: .val (.agg #[.int .i64 b1, .int .i64 b2]) :: .val (.bool false) :: .val (.bool false) :: .val (.bool false) :: .val (.agg #[.int .i64 a1, .int .i64 a2]) :: .val (.agg #[.int .i64 c1, .int .i64 c2]) :: .val (.agg #[.int .i64 d1, .int .i64 d2]) :: .val (.bool false) :: .val (.bool false) :: .skip :: .skip :: .skip :: .skip :: .val (.bool false) :: .val (.bool false) :: .val (.bool false) :: []) (by kernel_rfl) (Nat.le_refl _) ((by exact trivial))
                  ⟨fun a w R => ld_P (R.slot 4 rfl) (R.keep ow4 trivial) rfl rfl, fun a w R => ld_P (R.slot 6 rfl) (R.keep ow6 trivial) rfl rfl, fun a w R => ld_P (R.slot 7 rfl) (R.keep ow7 trivial) rfl rfl, fun a w R => cl_ttt (enter_at Try.func53) (R.val 0) (R.val 1) (R.val 2) (ROn_is (in4_iff.1 hin_.out).1 (in4_iff.1 hin_.out).2.2.1 (in4_iff.1 hin_.out).2.2.2 t3_.out _), fun a w R => mv (R.val 3), fun a w R => ld_P (R.slot 5 rfl) (R.keep ow5 trivial) rfl rfl, fun a w R => ld_P (R.slot 6 rfl) (R.keep ow6 trivial) rfl rfl, fun a w R => ld_P (R.slot 7 rfl) (R.keep ow7 trivial) rfl rfl, fun a w R => cl_ttt (enter_at Try.func53) (R.val 5) (R.val 6) (R.val 7) (ROn_is (in4_iff.1 hin_.out).2.1 (in4_iff.1 hin_.out).2.2.1 (in4_iff.1 hin_.out).2.2.2 t4_.out _), fun a w R => pickn (R.val 4) (R.val 8), fun a w R => mv (R.val 9), fun a w R => ld_P (R.slot 6 rfl) (R.keep ow6 trivial) rfl rfl, fun a w R => ld_P (R.slot 4 rfl) (R.keep ow4 trivial) rfl rfl, fun a w R => ld_P (R.slot 5 rfl) (R.keep ow5 trivial) rfl rfl, fun a w R => cl_ttt (enter_at Try.func53) (R.val 11) (R.val 12) (R.val 13) (ROn_is (in4_iff.1 hin_.out).2.2.1 (in4_iff.1 hin_.out).1 (in4_iff.1 hin_.out).2.1 t5_.out _), fun a w R => pickn (R.val 10) (R.val 14), fun a w R => mv (R.val 15), fun a w R => ld_P (R.slot 7 rfl) (R.keep ow7 trivial) rfl rfl, fun a w R => ld_P (R.slot 4 rfl) (R.keep ow4 trivial) rfl rfl, fun a w R => ld_P (R.slot 5 rfl) (R.keep ow5 trivial) rfl rfl, fun a w R => cl_ttt (enter_at Try.func53) (R.val 17) (R.val 18) (R.val 19) (ROn_is (in4_iff.1 hin_.out).2.2.2 (in4_iff.1 hin_.out).1 (in4_iff.1 hin_.out).2.1 t6_.out _), fun a w R => pickn (R.val 16) (R.val 20), fun a w R => mv (R.val 21), fun a w R => ld_P (R.slot 4 rfl) (R.keep ow4 trivial) rfl rfl, fun a w R => ld_P (R.slot 6 rfl) (R.keep ow6 trivial) rfl rfl, fun a w R => ld_P (R.slot 7 rfl) (R.keep ow7 trivial) rfl rfl, fun a w R => cl_ttt (enter_at Try.func72) (R.val 23) (R.val 24) (R.val 25) (Within_is (in4_iff.1 hin_.out).1 (in4_iff.1 hin_.out).2.2.1 (in4_iff.1 hin_.out).2.2.2 t7_.out _), fun a w R => mv (R.val 26), fun a w R => True.intro, fun a w R => True.intro, fun a w R => True.intro, fun a w R => True.intro, fun a w R => pickf (R.val 27) (R.goneS 31), fun a w R => pickn (R.val 22) (R.val 32), fun a w R => asg (R.val 33), trivial⟩ (fun act_ W2 I => ?_)
                rw [I.act [(22, .agg #[.int .i64 a1, .int .i64 a2]), (23, .agg #[.int .i64 c1, .int .i64 c2]), (24, .agg #[.int .i64 d1, .int .i64 d2]), (25, .bool false), (26, .bool false), (27, .agg #[.int .i64 b1, .int .i64 b2]), (28, .agg #[.int .i64 c1, .int .i64 c2]), (29, .agg #[.int .i64 d1, .int .i64 d2]), (30, .bool false), (31, .bool false), (32, .bool false), (33, .agg #[.int .i64 c1, .int .i64 c2]), (34, .agg #[.int .i64 a1, .int .i64 a2]), (35, .agg #[.int .i64 b1, .int .i64 b2]), (36, .bool false), (37, .bool false), (38, .bool false), (39, .agg #[.int .i64 d1, .int .i64 d2]), (40, .agg #[.int .i64 a1, .int .i64 a2]), (41, .agg #[.int .i64 b1, .int .i64 b2]), (42, .bool false), (43, .bool false), (44, .bool false), (45, .agg #[.int .i64 a1, .int .i64 a2]), (46, .agg #[.int .i64 c1, .int .i64 c2]), (47, .agg #[.int .i64 d1, .int .i64 d2]), (48, .bool false), (49, .bool false), (50, undef), (51, undef), (52, undef), (53, undef), (54, .bool false), (55, .bool false), (8, .bool false)]
                  ⟨I.val 0, I.val 1, I.val 2, I.val 3, I.val 4, I.val 5, I.val 6, I.val 7, I.val 8, I.val 9, I.val 10, I.val 11, I.val 12, I.val 13, I.val 14, I.val 15, I.val 16, I.val 17, I.val 18, I.val 19, I.val 20, I.val 21, I.val 22, I.val 23, I.val 24, I.val 25, I.val 26, I.val 27, I.gone 28, I.gone 29, I.gone 30, I.gone 31, I.val 32, I.val 33, I.val 34, trivial⟩ rfl]
                have sW2 : W1.heap.size ≤ W2.heap.size := I.below.size
                replace ow4 := I.keep ow4 trivial
                replace ow5 := I.keep ow5 trivial
                replace ow6 := I.keep ow6 trivial
                replace ow7 := I.keep ow7 trivial
                have hW2 : Bel w.heap.size w W2 := thenB hW1 I.below hW1.size
                clear I
                simp only [List.foldl_cons, List.foldl_nil, List.setIfInBounds_toArray, List.set_cons_zero, List.set_cons_succ]
                clear ow4 ow5 ow6 ow7
                go_wp2
                try simp only [setCell_drawn]
                refine bodyPost_ret (by first | (simp [results, Try.results54, go_sem]; done) | (simp [results, Try.results54, go_sem]; rfl)) rfl ⟨?_, hW2⟩
                refine retb_eq ?_; simp only [rmB, t1_.out, t2_.out, t3_.out, t4_.out, t5_.out, t6_.out, t7_.out]; rfl
    · have t2_ := Lib.hid t2
      clear t2
      go_upto_region 1 with fail
      refine region_memo_f (B := W0.heap.size) (L := .val (.agg #[.int .i64 a1, .int .i64 a2]) :: .val (.agg #[.int .i64 b1, .int .i64 b2]) :: .val (.agg #[.int .i64 c1, .int .i64 c2]) :: .val (.int .i64 (tn a1 a2 b1 b2 c1 c2)) :: .val (.bool true) :: .val (.bool true) :: .val (.agg #[.int .i64 a1, .int .i64 a2]) :: .val (.agg #[.int .i64 b1, .int .i64 b2]) :: .val (.agg #[.int .i64 d1, .int .i64 d2]) :: .val (.int .i64 (tn a1 a2 b1 b2 d1 d2)) :: .val (.bool false) :: .val (.bool false) :: []) (by kernel_rfl) (Nat.le_refl _) ((by exact trivial))
        ⟨fun a w R => ld_P (R.slot 4 rfl) (R.keep ow4 trivial) rfl rfl, fun a w R => ld_P (R.slot 5 rfl) (R.keep ow5 trivial) rfl rfl, fun a w R => ld_P (R.slot 6 rfl) (R.keep ow6 trivial) rfl rfl, fun a w R => cl_ttt (enter_at Try.func56) (R.val 0) (R.val 1) (R.val 2) (RTurn_in (in4_iff.1 hin_.out).1 (in4_iff.1 hin_.out).2.1 (in4_iff.1 hin_.out).2.2.1 _), fun a w R => c_eql_tk (R.val 3) (Try.underlying3) t1_.out, fun a w R => mv (R.val 4), fun a w R => ld_P (R.slot 4 rfl) (R.keep ow4 trivial) rfl rfl, fun a w R => ld_P (R.slot 5 rfl) (R.keep ow5 trivial) rfl rfl, fun a w R => ld_P (R.slot 7 rfl) (R.keep ow7 trivial) rfl rfl, fun a w R => cl_ttt (enter_at Try.func56) (R.val 6) (R.val 7) (R.val 8) (RTurn_in (in4_iff.1 hin_.out).1 (in4_iff.1 hin_.out).2.1 (in4_iff.1 hin_.out).2.2.2 _), fun a w R => c_eql_tk (R.val 9) (Try.underlying3) t2_.out, fun a w R => pickt (R.val 5) (R.val 10), trivial⟩ (fun act_ W1 I => ?_)
      rw [I.act [(10, .agg #[.int .i64 a1, .int .i64 a2]), (11, .agg #[.int .i64 b1, .int .i64 b2]), (12, .agg #[.int .i64 c1, .int .i64 c2]), (13, .int .i64 (tn a1 a2 b1 b2 c1 c2)), (14, .bool true), (15, .bool true), (16, .agg #[.int .i64 a1, .int .i64 a2]), (17, .agg #[.int .i64 b1, .int .i64 b2]), (18, .agg #[.int .i64 d1, .int .i64 d2]), (19, .int .i64 (tn a1 a2 b1 b2 d1 d2)), (20, .bool false), (21, .bool false)]
        ⟨I.val 0, I.val 1, I.val 2, I.val 3, I.val 4, I.val 5, I.val 6, I.val 7, I.val 8, I.val 9, I.val 10, I.val 11, trivial⟩ rfl]
      have sW1 : W0.heap.size ≤ W1.heap.size := I.below.size
      replace ow4 := I.keep ow4 trivial
      replace ow5 := I.keep ow5 trivial
      replace ow6 := I.keep ow6 trivial
      replace ow7 := I.keep ow7 trivial
      have hW1 : Bel w.heap.size w W1 := thenB hW0 I.below hW0.size
      clear I
      simp only [List.foldl_cons, List.foldl_nil, List.setIfInBounds_toArray, List.set_cons_zero, List.set_cons_succ]
      rcases Bool.eq_false_or_eq_true (decide (a1 = c1 ∧ a2 = c2)) with t9 | t9
      · have t9_ := Lib.hid t9
        clear t9
        go_upto_region 3 with fail
        refine region_memo_f (B := W1.heap.size) (L := .val (.agg #[.int .i64 a1, .int .i64 a2]) :: .val (.agg #[.int .i64 c1, .int .i64 c2]) :: .val (.bool true) :: .val (.bool true) :: .skip :: .skip :: .skip :: .val (.bool true) :: .val (.bool true) :: .skip :: .skip :: .skip :: .val (.bool true) :: .val (.bool true) :: .skip :: .skip :: .skip :: .val (.bool true) :: []) (by kernel_rfl) (Nat.le_refl _) ((by exact trivial))
          ⟨fun a w R => ld_P (R.slot 4 rfl) (R.keep ow4 trivial) rfl rfl, fun a w R => ld_P (R.slot 6 rfl) (R.keep ow6 trivial) rfl rfl, fun a w R => (e_eql_P (R.val 0) (R.val 1) ((fun w => (eq_Point _ _ _ _ w).trans (by rw [t9_.out])))), fun a w R => mv (R.val 2), fun a w R => True.intro, fun a w R => True.intro, fun a w R => True.intro, fun a w R => picko (R.val 3) (R.goneS 6), fun a w R => mv (R.val 7), fun a w R => True.intro, fun a w R => True.intro, fun a w R => True.intro, fun a w R => picko (R.val 8) (R.goneS 11), fun a w R => mv (R.val 12), fun a w R => True.intro, fun a w R => True.intro, fun a w R => True.intro, fun a w R => picko (R.val 13) (R.goneS 16), trivial⟩ (fun act_ W2 I => ?_)
        rw [I.act [(56, .agg #[.int .i64 a1, .int .i64 a2]), (57, .agg #[.int .i64 c1, .int .i64 c2]), (58, .bool true), (59, .bool true), (60, undef), (61, undef), (62, undef), (63, .bool true), (64, .bool true), (65, undef), (66, undef), (67, undef), (68, .bool true), (69, .bool true), (70, undef), (71, undef), (72, undef), (73, .bool true)]
          ⟨I.val 0, I.val 1, I.val 2, I.val 3, I.gone 4, I.gone 5, I.gone 6, I.val 7, I.val 8, I.gone 9, I.gone 10, I.gone 11, I.val 12, I.val 13, I.gone 14, I.gone 15, I.gone 16, I.val 17, trivial⟩ rfl]
        have sW2 : W1.heap.size ≤ W2.heap.size := I.below.size
        replace ow4 := I.keep ow4 trivial
        replace ow5 := I.keep ow5 trivial
        replace ow6 := I.keep ow6 trivial
        replace ow7 := I.keep ow7 trivial
        have hW2 : Bel w.heap.size w W2 := thenB hW1 I.below hW1.size
        clear I
        simp only [List.foldl_cons, List.foldl_nil, List.setIfInBounds_toArray, List.set_cons_zero, List.set_cons_succ]
        go_upto_region 4 with fail
        refine region_memo_f (B := W2.heap.size) (L := .val (.bool false) :: []) (by kernel_rfl) (Nat.le_refl _) ((by exact trivial))
          ⟨fun a w R => asc, trivial⟩ (fun act_ W3 I => ?_)
        rw [I.act [(8, .bool false)]
          ⟨I.val 0, trivial⟩ rfl]
        have sW3 : W2.heap.size ≤ W3.heap.size := I.below.size
        replace ow4 := I.keep ow4 trivial
        replace ow5 := I.keep ow5 trivial
        replace ow6 := I.keep ow6 trivial
        replace ow7 := I.keep ow7 trivial
        have hW3 : Bel w.heap.size w W3 := thenB hW2 I.below hW2.size
        clear I
        simp only [List.foldl_cons, List.foldl_nil, List.setIfInBounds_toArray, List.set_cons_zero, List.set_cons_succ]
        clear ow4 ow5 ow6 ow7
        go_wp2
        try simp only [setCell_drawn]
        refine bodyPost_ret (by first | (simp [results, Try.results54, go_sem]; done) | (simp [results, Try.results54, go_sem]; rfl)) rfl ⟨?_, hW3⟩
        refine retb_eq ?_; simp only [rmB, t1_.out, t2_.out, t9_.out]; rfl
      · have t9_ := Lib.hid t9
        clear t9
        rcases Bool.eq_false_or_eq_true (decide (a1 = d1 ∧ a2 = d2)) with t10 | t10
        · have t10_ := Lib.hid t10
          clear t10
          go_upto_region 3 with fail
          refine region_memo_f (B := W1.heap.size) (L := .val (.agg #[.int .i64 a1, .int .i64 a2]) :: .val (.agg #[.int .i64 c1, .int .i64 c2]) :: .val (.bool false) :: .val (.bool false) :: .val (.agg #[.int .i64 a1, .int .i64 a2]) :: .val (.agg #[.int .i64 d1, .int .i64 d2]) :: .val (.bool true) :: .val (.bool true) :: .val (.bool true) :: .skip :: .skip :: .skip :: .val (.bool true) :: .val (.bool true) :: .skip :: .skip :: .skip :: .val (.bool true) :: []) (by kernel_rfl) (Nat.le_refl _) ((by exact trivial))
            ⟨fun a w R => ld_P (R.slot 4 rfl) (R.keep ow4 trivial) rfl rfl, fun a w R => ld_P (R.slot 6 rfl) (R.keep ow6 trivial) rfl rfl, fun a w R => (e_eql_P (R.val 0) (R.val 1) ((fun w => (eq_Point _ _ _ _ w).trans (by rw [t9_.out])))), fun a w R => mv (R.val 2), fun a w R => ld_P (R.slot 4 rfl) (R.keep ow4 trivial) rfl rfl, fun a w R => ld_P (R.slot 7 rfl) (R.keep ow7 trivial) rfl rfl, fun a w R => (e_eql_P (R.val 4) (R.val 5) ((fun w => (eq_Point _ _ _ _ w).trans (by rw [t10_.out])))), fun a w R => pickn (R.val 3) (R.val 6), fun a w R => mv (R.val 7), fun a w R => True.intro, fun a w R => True.intro, fun a w R => True.intro, fun a w R => picko (R.val 8) (R.goneS 11), fun a w R => mv (R.val 12), fun a w R => True.intro, fun a w R => True.intro, fun a w R => True.intro, fun a w R => picko (R.val 13) (R.goneS 16), trivial⟩ (fun act_ W2 I => ?_)
          rw [I.act [(56, .agg #[.int .i64 a1, .int .i64 a2]), (57, .agg #[.int .i64 c1, .int .i64 c2]), (58, .bool false), (59, .bool false), (60, .agg #[.int .i64 a1, .int .i64 a2]), (61, .agg #[.int .i64 d1, .int .i64 d2]), (62, .bool true), (63, .bool true), (64, .bool true), (65, undef), (66, undef), (67, undef), (68, .bool true), (69, .bool true), (70, undef), (71, undef), (72, undef), (73, .bool true)]
            ⟨I.val 0, I.val 1, I.val 2, I.val 3, I.val 4, I.val 5, I.val 6, I.val 7, I.val 8, I.gone 9, I.gone 10, I.gone 11, I.val 12, I.val 13, I.gone 14, I.gone 15, I.gone 16, I.val 17, trivial⟩ rfl]
          have sW2 : W1.heap.size ≤ W2.heap.size := I.below.size
          replace ow4 := I.keep ow4 trivial
          replace ow5 := I.keep ow5 trivial
          replace ow6 := I.keep ow6 trivial
          replace ow7 := I.keep ow7 trivial
          have hW2 : Bel w.heap.size w W2 := thenB hW1 I.below hW1.size
          clear I
          simp only [List.foldl_cons, List.foldl_nil, List.setIfInBounds_toArray, List.set_cons_zero, List.set_cons_succ]
          go_upto_region 4 with fail
          refine region_memo_f (B := W2.heap.size) (L := .val (.bool false) :: []) (by kernel_rfl) (Nat.le_refl _) ((by exact trivial))
            ⟨fun a w R => asc, trivial⟩ (fun act_ W3 I => ?_)
          rw [I.act [(8, .bool false)]
            ⟨I.val 0, trivial⟩ rfl]
          have sW3 : W2.heap.size ≤ W3.heap.size := I.below.size
          replace ow4 := I.keep ow4 trivial
          replace ow5 := I.keep ow5 trivial
          replace ow6 := I.keep ow6 trivial
          replace ow7 := I.keep ow7 trivial
          have hW3 : Bel w.heap.size w W3 := thenB hW2 I.below hW2.size
          clear I
          simp only [List.foldl_cons, List.foldl_nil, List.setIfInBounds_toArray, List.set_cons_zero, List.set_cons_succ]
          clear ow4 ow5 ow6 ow7
          go_wp2
          try simp only [setCell_drawn]
          refine bodyPost_ret (by first | (simp [results, Try.results54, go_sem]; done) | (simp [results, Try.results54, go_sem]; rfl)) rfl ⟨?_, hW3⟩
          refine retb_eq ?_; simp only [rmB, t1_.out, t2_.out, t9_.out, t10_.out]; rfl
        · have t10_ := Lib.hid t10
          clear t10
          rcases Bool.eq_false_or_eq_true (decide (b1 = c1 ∧ b2 = c2)) with t11 | t11
          · have t11_ := Lib.hid t11
            clear t11
            go_upto_region 3 with fail
            refine region_memo_f (B := W1.heap.size) (L := .val (.agg #[.int .i64 a1, .int .i64 a2]) :: .val (.agg #[.int .i64 c1, .int .i64 c2]) :: .val (.bool false) :: .val (.bool false) :: .val (.agg #[.int .i64 a1, .int .i64 a2]) :: .val (.agg #[.int .i64 d1, .int .i64 d2]) :: .val (.bool false) :: .val (.bool false) :: .val (.bool false) :: .val (.agg #[.int .i64 b1, .int .i64 b2]) :: .val (.agg #[.int .i64 c1, .int .i64 c2]) :: .val (.bool true) :: .val (.bool true) :: .val (.bool true) :: .skip :: .skip :: .skip :: .val (.bool true) :: []) (by kernel_rfl) (Nat.le_refl _) ((by exact trivial))
              ⟨fun a w R => ld_P (R.slot 4 rfl) (R.keep ow4 trivial) rfl rfl, fun a w R => ld_P (R.slot 6 rfl) (R.keep ow6 trivial) rfl rfl, fun a w R => (e_eql_P (R.val 0) (R.val 1) ((fun w => (eq_Point _ _ _ _ w).trans (by rw [t9_.out])))), fun a w R => mv (R.val 2), fun a w R => ld_P (R.slot 4 rfl) (R.keep ow4 trivial) rfl rfl, fun a w R => ld_P (R.slot 7 rfl) (R.keep ow7 trivial) rfl rfl, fun a w R => (e_eql_P (R.val 4) (R.val 5) ((fun w => (eq_Point _ _ _ _ w).trans (by rw [t10_.out])))), fun a w R => pickn (R.val 3) (R.val 6), fun a w R => mv (R.val 7), fun a w R => ld_P (R.slot 5 rfl) (R.keep ow5 trivial) rfl rfl, fun a w R => ld_P (R.slot 6 rfl) (R.keep ow6 trivial) rfl rfl, fun a w R => (e_eql_P (R.val 9) (R.val 10) ((fun w => (eq_Point _ _ _ _ w).trans (by rw [t11_.out])))), fun a w R => pickn (R.val 8) (R.val 11), fun a w R => mv (R.val 12), fun a w R => True.intro, fun a w R => True.intro, fun a w R => True.intro, fun a w R => picko (R.val 13) (R.goneS 16), trivial⟩ (fun act_ W2 I => ?_)
            rw [I.act [(56, .agg #[.int .i64 a1, .int .i64 a2]), (57, .agg #[.int .i64 c1, .int .i64 c2]), (58, .bool false), (59, .bool false), (60, .agg #[.int .i64 a1, .int .i64 a2]), (61, .agg #[.int .i64 d1, .int .i64 d2]), (62, .bool false), (63, .bool false), (64, .bool false), (65, .agg #[.int .i64 b1, .int .i64 b2]), (66, .agg #[.int .i64 c1, .int .i64 c2]), (67, .bool true), (68, .bool true), (69, .bool true), (70, undef), (71, undef), (72, undef), (73, .bool true)]
              ⟨I.val 0, I.val 1, I.val 2, I.val 3, I.val 4, I.val 5, I.val 6, I.val 7, I.val 8, I.val 9, I.val 10, I.val 11, I.val 12, I.val 13, I.gone 14, I.gone 15, I.gone 16, I.val 17, trivial⟩ rfl]
            have sW2 : W1.heap.size ≤ W2.heap.size := I.below.size
            replace ow4 := I.keep ow4 trivial
            replace ow5 := I.keep ow5 trivial
            replace ow6 := I.keep ow6 trivial
            replace ow7 := I.keep ow7 trivial
            have hW2 : Bel w.heap.size w W2 := thenB hW1 I.below hW1.size
            clear I
            simp only [List.foldl_cons, List.foldl_nil, List.setIfInBounds_toArray, List.set_cons_zero, List.set_cons_succ]
            go_upto_region 4 with fail
            refine region_memo_f (B := W2.heap.size) (L := .val (.bool false) :: []) (by kernel_rfl) (Nat.le_refl _) ((by exact trivial))
              ⟨fun a w R => asc, trivial⟩ (fun act_ W3 I => ?_)
            rw [I.act [(8, .bool false)]
              ⟨I.val 0, trivial⟩ rfl]
            have sW3 : W2.heap.size ≤ W3.heap.size := I.below.size
            replace ow4 := I.keep ow4 trivial
            replace ow5 := I.keep ow5 trivial
            replace ow6 := I.keep ow6 trivial
            replace ow7 := I.keep ow7 trivial
            have hW3 : Bel w.heap.size w W3 := thenB hW2 I.below hW2.size
            clear I
            simp only [List.foldl_cons, List.foldl_nil, List.setIfInBounds_toArray, List.set_cons_zero, List.set_cons_succ]
            clear ow4 ow5 ow6 ow7
            go_wp2
            try simp only [setCell_drawn]
            refine bodyPost_ret (by first | (simp [results, Try.results54, go_sem]; done) | (simp [results, Try.results54, go_sem]; rfl)) rfl ⟨?_, hW3⟩
            refine retb_eq ?_; simp only [rmB, t1_.out, t2_.out, t9_.out, t10_.out, t11_.out]; rfl
          · have t11_ := Lib.hid t11
            clear t11
            rcases Bool.eq_false_or_eq_true (decide (b1 = d1 ∧ b2 = d2)) with t12 | t12
            · have t12_ := Lib.hid t12
              clear t12
              go_upto_region 3 with fail
              refine region_memo_f (B := W1.heap.size) (L := .val (.agg #[.int .i64 a1, .int .i64 a2]) :: .val (.agg #[.int .i64 c1, .int .i64 c2]) :: .val (.bool false) :: .val (.bool false) :: .val (.agg #[.int .i64 a1, .int .i64 a2]) :: .val (.agg #[.int .i64 d1, .int .i64 d2]) :: .val (.bool false) :: .val (.bool false) :: .val (.bool false) :: .val (.agg #[.int .i64 b1, .int .i64 b2]) :: .val (.agg #[.int .i64 c1, .int .i64 c2]) :: .val (.bool false) :: .val (.bool false) :: .val (.bool false) :: .val (.agg #[.int .i64 b1, .int .i64 b2]) :: .val (.agg #[.int .i64 d1, .int .i64 d2]) :: .val (.bool true) :: .val (.bool true) :: []) (by kernel_rfl) (Nat.le_refl _) ((by exact trivial))
                ⟨fun a w R => ld_P (R.slot 4 rfl) (R.keep ow4 trivial) rfl rfl, fun a w R => ld_P (R.slot 6 rfl) (R.keep ow6 trivial) rfl rfl, fun a w R => (e_eql_P (R.val 0) (R.val 1) ((fun w => (eq_Point _ _ _ _ w).trans (by rw [t9_.out])))), fun a w R => mv (R.val 2), fun a w R => ld_P (R.slot 4 rfl) (R.keep ow4 trivial) rfl rfl, fun a w R => ld_P (R.slot 7 rfl) (R.keep ow7 trivial) rfl rfl, fun a w R => (e_eql_P (R.val 4) (R.val 5) ((fun w => (eq_Point _ _ _ _ w).trans (by rw [t10_.out])))), fun a w R => pickn (R.val 3) (R.val 6), fun a w R => mv (R.val 7), fun a w R => ld_P (R.slot 5 rfl) (R.keep ow5 trivial) rfl rfl, fun a w R => ld_P (R.slot 6 rfl) (R.keep ow6 trivial) rfl rfl, fun a w R => (e_eql_P (R.val 9) (R.val 10) ((fun w => (eq_Point _ _ _ _ w).trans (by rw [t11_.out])))), fun a w R => pickn (R.val 8) (R.val 11), fun a w R => mv (R.val 12), fun a w R => ld_P (R.slot 5 rfl) (R.keep ow5 trivial) rfl rfl, fun a w R => ld_P (R.slot 7 rfl) (R.keep ow7 trivial) rfl rfl, fun a w R => (e_eql_P (R.val 14) (R.val 15) ((fun w => (eq_Point _ _ _ _ w).trans (by rw [t12_.out])))), fun a w R => pickn (R.val 13) (R.val 16), trivial⟩ (fun act_ W2 I => ?_)
              rw [I.act [(56, .agg #[.int .i64 a1, .int .i64 a2]), (57, .agg #[.int .i64 c1, .int .i64 c2]), (58, .bool false), (59, .bool false), (60, .agg #[.int .i64 a1, .int .i64 a2]), (61, .agg #[.int .i64 d1, .int .i64 d2]), (62, .bool false), (63, .bool false), (64, .bool false), (65, .agg #[.int .i64 b1, .int .i64 b2]), (66, .agg #[.int .i64 c1, .int .i64 c2]), (67, .bool false), (68, .bool false), (69, .bool false), (70, .agg #[.int .i64 b1, .int .i64 b2]), (71, .agg #[.int .i64 d1, .int .i64 d2]), (72, .bool true), (73, .bool true)]
                ⟨I.val 0, I.val 1, I.val 2, I.val 3, I.val 4, I.val 5, I.val 6, I.val 7, I.val 8, I.val 9, I.val 10, I.val 11, I.val 12, I.val 13, I.val 14, I.val 15, I.val 16, I.val 17, trivial⟩ rfl]
              have sW2 : W1.heap.size ≤ W2.heap.size := I.below.size
              replace ow4 := I.keep ow4 trivial
              replace ow5 := I.keep ow5 trivial
              replace ow6 := I.keep ow6 trivial
              replace ow7 := I.keep ow7 trivial
              have hW2 : Bel w.heap.size w W2 := thenB hW1 I.below hW1.size
              clear I
              simp only [List.foldl_cons, List.foldl_nil, List.setIfInBounds_toArray, List.set_cons_zero, List.set_cons_succ]
              go_upto_region 4 with fail
              refine region_memo_f (B := W2.heap.size) (L := .val (.bool false) :: []) (by kernel_rfl) (Nat.le_refl _) ((by exact trivial))
                ⟨fun a w R => asc, trivial⟩ (fun act_ W3 I => ?_)
              rw [I.act [(8, .bool false)]
                ⟨I.val 0, trivial⟩ rfl]
              have sW3 : W2.heap.size ≤ W3.heap.size := I.below.size
              replace ow4 := I.keep ow4 trivial
              replace ow5 := I.keep ow5 trivial
              replace ow6 := I.keep ow6 trivial
              replace ow7 := I.keep ow7 trivial
              have hW3 : Bel w.heap.size w W3 := thenB hW2 I.below hW2.size
              clear I
              simp only [List.foldl_cons, List.foldl_nil, List.setIfInBounds_toArray, List.set_cons_zero, List.set_cons_succ]
              clear ow4 ow5 ow6 ow7
              go_wp2
              try simp only [setCell_drawn]
              refine bodyPost_ret (by first | (simp [results, Try.results54, go_sem]; done) | (simp [results, Try.results54, go_sem]; rfl)) rfl ⟨?_, hW3⟩
              refine retb_eq ?_; simp only [rmB, t1_.out, t2_.out, t9_.out, t10_.out, t11_.out, t12_.out]; rfl
            · have t12_ := Lib.hid t12
              clear t12
              go_upto_region 3 with fail
              refine region_memo_f (B := W1.heap.size) (L := .val (.agg #[.int .i64 a1, .int .i64 a2]) :: .val (.agg #[.int .i64 c1, .int .i64 c2]) :: .val (.bool false) :: .val (.bool false) :: .val (.agg #[.int .i64 a1, .int .i64 a2]) :: .val (.agg #[.int .i64 d1, .int .i64 d2]) :: .val (.bool false) :: .val (.bool false) :: .val (.bool false) :: .val (.agg #[.int .i64 b1, .int .i64 b2]) :: .val (.agg #[.int .i64 c1, .int .i64 c2]) :: .val (.bool false) :: .val (.bool false) :: .val (.bool false) :: .val (.agg #[.int .i64 b1, .int .i64 b2]) :: .val (.agg #[.int .i64 d1, .int .i64 d2]) :: .val (.bool false) :: .val (.bool false) :: []) (by kernel_rfl) (Nat.le_refl _) ((by exact trivial))
                ⟨fun a w R => ld_P (R.slot 4 rfl) (R.keep ow4 trivial) rfl rfl, fun a w R => ld_P (R.slot 6 rfl) (R.keep ow6 trivial) rfl rfl, fun a w R => (e_eql_P (R.val 0) (R.val 1) ((fun w => (eq_Point _ _ _ _ w).trans (by rw [t9_.out])))), fun a w R => mv (R.val 2), fun a w R => ld_P (R.slot 4 rfl) (R.keep ow4 trivial) rfl rfl, fun a w R => ld_P (R.slot 7 rfl) (R.keep ow7 trivial) rfl rfl, fun a w R => (e_eql_P (R.val 4) (R.val 5) ((fun w => (eq_Point _ _ _ _ w).trans (by rw [t10_.out])))), fun a w R => pickn (R.val 3) (R.val 6), fun a w R => mv (R.val 7), fun a w R => ld_P (R.slot 5 rfl) (R.keep ow5 trivial) rfl rfl, fun a w R => ld_P (R.slot 6 rfl) (R.keep ow6 trivial) rfl rfl, fun a w R => (e_eql_P (R.val 9) (R.val 10) ((fun w => (eq_Point _ _ _ _ w).trans (by rw [t11_.out])))), fun a w R => pickn (R.val 8) (R.val 11), fun a w R => mv (R.val 12), fun a w R => ld_P (R.slot 5 rfl) (R.keep ow5 trivial) rfl rfl, fun a w R => ld_P (R.slot 7 rfl) (R.keep ow7 trivial) rfl rfl, fun a w R => (e_eql_P (R.val 14) (R.val 15) ((fun w => (eq_Point _ _ _ _ w).trans (by rw [t12_.out])))), fun a w R => pickn (R.val 13) (R.val 16), trivial⟩ (fun act_ W2 I => ?_)
              rw [I.act [(56, .agg #[.int .i64 a1, .int .i64 a2]), (57, .agg #[.int .i64 c1, .int .i64 c2]), (58, .bool false), (59, .bool false), (60, .agg #[.int .i64 a1, .int .i64 a2]), (61, .agg #[.int .i64 d1, .int .i64 d2]), (62, .bool false), (63, .bool false), (64, .bool false), (65, .agg #[.int .i64 b1, .int .i64 b2]), (66, .agg #[.int .i64 c1, .int .i64 c2]), (67, .bool false), (68, .bool false), (69, .bool false), (70, .agg #[.int .i64 b1, .int .i64 b2]), (71, .agg #[.int .i64 d1, .int .i64 d2]), (72, .bool false), (73, .bool false)]
                ⟨I.val 0, I.val 1, I.val 2, I.val 3, I.val 4, I.val 5, I.val 6, I.val 7, I.val 8, I.val 9, I.val 10, I.val 11, I.val 12, I.val 13, I.val 14, I.val 15, I.val 16, I.val 17, trivial⟩ rfl]
              have sW2 : W1.heap.size ≤ W2.heap.size := I.below.size
              replace ow4 := I.keep ow4 trivial
              replace ow5 := I.keep ow5 trivial
              replace ow6 := I.keep ow6 trivial
              replace ow7 := I.keep ow7 trivial
              have hW2 : Bel w.heap.size w W2 := thenB hW1 I.below hW1.size
              clear I
              simp only [List.foldl_cons, List.foldl_nil, List.setIfInBounds_toArray, List.set_cons_zero, List.set_cons_succ]
              rcases Bool.eq_false_or_eq_true ((tn a1 a2 b1 b2 c1 c2 == tn a1 a2 b1 b2 d1 d2)) with t13 | t13
              · have t13_ := Lib.hid t13
                clear t13
                go_upto_region 5 with fail
                refine region_memo (B := W2.heap.size) (L := .val (.agg #[.int .i64 a1, .int .i64 a2]) :: .val (.agg #[.int .i64 b1, .int .i64 b2]) :: .val (.agg #[.int .i64 c1, .int .i64 c2]) :: .val (.int .i64 (tn a1 a2 b1 b2 c1 c2)) :: .val (.agg #[.int .i64 a1, .int .i64 a2]) :: .val (.agg #[.int .i64 b1, .int .i64 b2]) :: .val (.agg #[.int .i64 d1, .int .i64 d2]) :: .val (.int .i64 (tn a1 a2 b1 b2 d1 d2)) :: .val (.bool true) :: .val (.bool true) :: .skip :: .skip :: .skip :: .skip :: .skip :: .skip :: .skip :: .skip :: .skip :: .val (.bool true) :: .val (.bool true) :: []) (by kernel_rfl) (by kernel_rfl) (Nat.le_refl _) ((by exact trivial))
                  ⟨fun a w R => ld_P (R.slot 4 rfl) (R.keep ow4.drawn trivial) rfl rfl, fun a w R => ld_P (R.slot 5 rfl) (R.keep ow5.drawn trivial) rfl rfl, fun a w R => ld_P (R.slot 6 rfl) (R.keep ow6.drawn trivial) rfl rfl, fun a w R => cl_ttt (enter_at Try.func56) (R.val 0) (R.val 1) (R.val 2) (RTurn_in (in4_iff.1 hin_.out).1 (in4_iff.1 hin_.out).2.1 (in4_iff.1 hin_.out).2.2.1 _), fun a w R => ld_P (R.slot 4 rfl) (R.keep ow4.drawn trivial) rfl rfl, fun a w R => ld_P (R.slot 5 rfl) (R.keep ow5.drawn trivial) rfl rfl, fun a w R => ld_P (R.slot 7 rfl) (R.keep ow7.drawn trivial) rfl rfl, fun a w R => cl_ttt (enter_at Try.func56) (R.val 4) (R.val 5) (R.val 6) (RTurn_in (in4_iff.1 hin_.out).1 (in4_iff.1 hin_.out).2.1 (in4_iff.1 hin_.out).2.2.2 _), fun a w R => c_eql_tt (R.val 3) (R.val 7) (Try.underlying3) t13_.out, fun a w R => mv (R.val 8), fun a w R => True.intro, fun a w R => True.intro, fun a w R => True.intro, fun a w R => True.intro, fun a w R => True.intro, fun a w R => True.intro, fun a w R => True.intro, fun a w R => True.intro, fun a w R => True.intro, fun a w R => picko (R.val 9) (R.goneS 18), fun a w R => asg (R.val 19), trivial⟩ (fun act_ W3 I => ?_)
                rw [I.act [(74, .agg #[.int .i64 a1, .int .i64 a2]), (75, .agg #[.int .i64 b1, .int .i64 b2]), (76, .agg #[.int .i64 c1, .int .i64 c2]), (77, .int .i64 (tn a1 a2 b1 b2 c1 c2)), (78, .agg #[.int .i64 a1, .int .i64 a2]), (79, .agg #[.int .i64 b1, .int .i64 b2]), (80, .agg #[.int .i64 d1, .int .i64 d2]), (81, .int .i64 (tn a1 a2 b1 b2 d1 d2)), (82, .bool true), (83, .bool true), (84, undef), (85, undef), (86, undef), (87, undef), (88, undef), (89, undef), (90, undef), (91, undef), (92, undef), (93, .bool true), (9, .bool true)]
                  ⟨I.val 0, I.val 1, I.val 2, I.val 3, I.val 4, I.val 5, I.val 6, I.val 7, I.val 8, I.val 9, I.gone 10, I.gone 11, I.gone 12, I.gone 13, I.gone 14, I.gone 15, I.gone 16, I.gone 17, I.gone 18, I.val 19, I.val 20, trivial⟩ rfl]
                have sW3 : W2.heap.size ≤ W3.heap.size := I.below.size
                replace ow4 := I.keep ow4.drawn trivial
                replace ow5 := I.keep ow5.drawn trivial
                replace ow6 := I.keep ow6.drawn trivial
                replace ow7 := I.keep ow7.drawn trivial
                have hW3 : Bel w.heap.size w W3 := thenB hW2.drew I.below hW2.size
                clear I
                simp only [List.foldl_cons, List.foldl_nil, List.setIfInBounds_toArray, List.set_cons_zero, List.set_cons_succ]
                go_upto_region 6 with fail
                refine region_memo_f (B := W3.heap.size) (L := .val (.bool true) :: .val (.bool false) :: .val (.bool false) :: []) (by kernel_rfl) (Nat.le_refl _) ((by exact trivial))
                  ⟨fun a w R => mv (R.slot 9 rfl), fun a w R => notb (R.val 0), fun a w R => asg (R.val 1), trivial⟩ (fun act_ W4 I => ?_)
                rw [I.act [(94, .bool true), (95, .bool false), (8, .bool false)]
                  ⟨I.val 0, I.val 1, I.val 2, trivial⟩ rfl]
                have sW4 : W3.heap.size ≤ W4.heap.size := I.below.size
                replace ow4 := I.keep ow4 trivial
                replace ow5 := I.keep ow5 trivial
                replace ow6 := I.keep ow6 trivial
                replace ow7 := I.keep ow7 trivial
                have hW4 : Bel w.heap.size w W4 := thenB hW3 I.below hW3.size
                clear I
                simp only [List.foldl_cons, List.foldl_nil, List.setIfInBounds_toArray, List.set_cons_zero, List.set_cons_succ]
                clear ow4 ow5 ow6 ow7
                go_wp2
                try simp only [setCell_drawn]
                refine bodyPost_ret (by first | (simp [results, Try.results54, go_sem]; done) | (simp [results, Try.results54, go_sem]; rfl)) rfl ⟨?_, hW4⟩
                refine retb_eq ?_; simp only [rmB, t1_.out, t2_.out, t9_.out, t10_.out, t11_.out, t12_.out, t13_.out]; rfl
              · have t13_ := Lib.hid t13
                clear t13
                rcases Bool.eq_false_or_eq_true (((tn c1 c2 d1 d2 a1 a2) == (tn c1 c2 d1 d2 b1 b2))) with t14 | t14
                · have t14_ := Lib.hid t14
                  clear t14
                  go_upto_region 5 with fail
                  refine region_memo (B := W2.heap.size) (L := .val (.agg #[.int .i64 a1, .int .i64 a2]) :: .val (.agg #[.int .i64 b1, .int .i64 b2]) :: .val (.agg #[.int .i64 c1, .int .i64 c2]) :: .val (.int .i64 (tn a1 a2 b1 b2 c1 c2)) :: .val (.agg #[.int .i64 a1, .int .i64 a2]) :: .val (.agg #[.int .i64 b1, .int .i64 b2]) :: .val (.agg #[.int .i64 d1, .int .i64 d2]) :: .val (.int .i64 (tn a1 a2 b1 b2 d1 d2)) :: .val (.bool false) :: .val (.bool false) :: .val (.agg #[.int .i64 c1, .int .i64 c2]) :: .val (.agg #[.int .i64 d1, .int .i64 d2]) :: .val (.agg #[.int .i64 a1, .int .i64 a2]) :: .val (.int .i64 (tn c1 c2 d1 d2 a1 a2)) :: .val (.agg #[.int .i64 c1, .int .i64 c2]) :: .val (.agg #[.int .i64 d1, .int .i64 d2]) :: .val (.agg #[.int .i64 b1, .int .i64 b2]) :: .val (.int .i64 (tn c1 c2 d1 d2 b1 b2)) :: .val (.bool true) :: .val (.bool true) :: .val (.bool true) :: []) (by kernel_rfl) (by kernel_rfl) (Nat.le_refl _) ((by exact trivial))
                    ⟨fun a w R => ld_P (R.slot 4 rfl) (R.keep ow4.drawn trivial) rfl rfl, fun a w R => ld_P (R.slot 5 rfl) (R.keep ow5.drawn trivial) rfl rfl, fun a w R => ld_P (R.slot 6 rfl) (R.keep ow6.drawn trivial) rfl rfl, fun a w R => cl_ttt (enter_at Try.func56) (R.val 0) (R.val 1) (R.val 2) (RTurn_in (in4_iff.1 hin_.out).1 (in4_iff.1 hin_.out).2.1 (in4_iff.1 hin_.out).2.2.1 _), fun a w R => ld_P (R.slot 4 rfl) (R.keep ow4.drawn trivial) rfl rfl, fun a w R => ld_P (R.slot 5 rfl) (R.keep ow5.drawn trivial) rfl rfl, fun a w R => ld_P (R.slot 7 rfl) (R.keep ow7.drawn trivial) rfl rfl, fun a w R => cl_ttt (enter_at Try.func56) (R.val 4) (R.val 5) (R.val 6) (RTurn_in (in4_iff.1 hin_.out).1 (in4_iff.1 hin_.out).2.1 (in4_iff.1 hin_.out).2.2.2 _), fun a w R => c_eql_tt (R.val 3) (R.val 7) (Try.underlying3) t13_.out, fun a w R => mv (R.val 8), fun a w R => ld_P (R.slot 6 rfl) (R.keep ow6.drawn trivial) rfl rfl, fun a w R => ld_P (R.slot 7 rfl) (R.keep ow7.drawn trivial) rfl rfl, fun a w R => ld_P (R.slot 4 rfl) (R.keep ow4.drawn trivial) rfl rfl, fun a w R => cl_ttt (enter_at Try.func56) (R.val 10) (R.val 11) (R.val 12) (RTurn_in (in4_iff.1 hin_.out).2.2.1 (in4_iff.1 hin_.out).2.2.2 (in4_iff.1 hin_.out).1 _), fun a w R => ld_P (R.slot 6 rfl) (R.keep ow6.drawn trivial) rfl rfl, fun a w R => ld_P (R.slot 7 rfl) (R.keep ow7.drawn trivial) rfl rfl, fun a w R => ld_P (R.slot 5 rfl) (R.keep ow5.drawn trivial) rfl rfl, fun a w R => cl_ttt (enter_at Try.func56) (R.val 14) (R.val 15) (R.val 16) (RTurn_in (in4_iff.1 hin_.out).2.2.1 (in4_iff.1 hin_.out).2.2.2 (in4_iff.1 hin_.out).2.1 _), fun a w R => c_eql_tt (R.val 13) (R.val 17) (Try.underlying3) t14_.out, fun a w R => pickn (R.val 9) (R.val 18), fun a w R => asg (R.val 19), trivial⟩ (fun act_ W3 I => ?_)
                  rw [I.act [(74, .agg #[.int .i64 a1, .int .i64 a2]), (75, .agg #[.int .i64 b1, .int .i64 b2]), (76, .agg #[.int .i64 c1, .int .i64 c2]), (77, .int .i64 (tn a1 a2 b1 b2 c1 c2)), (78, .agg #[.int .i64 a1, .int .i64 a2]), (79, .agg #[.int .i64 b1, .int .i64 b2]), (80, .agg #[.int .i64 d1, .int .i64 d2]), (81, .int .i64 (tn a1 a2 b1 b2 d1 d2)), (82, .bool false), (83, .bool false), (84, .agg #[.int .i64 c1, .int .i64 c2]), (85, .agg #[.int .i64 d1, .int .i64 d2]), (86, .agg #[.int .i64 a1, .int .i64 a2]), (87, .int .i64 (tn c1 c2 d1 d2 a1 a2)), (88, .agg #[.int .i64 c1, .int .i64 c2]), (89, .agg #[.int .i64 d1, .int .i64 d2]), (90, .agg #[.int .i64 b1, .int .i64 b2]), (91, .int .i64 (tn c1 c2 d1 d2 b1 b2)), (92, .bool true), (93, .bool true), (9, .bool true)]
                    ⟨I.val 0, I.val 1, I.val 2, I.val 3, I.val 4, I.val 5, I.val 6, I.val 7, I.val 8, I.val 9, I.val 10, I.val 11, I.val 12, I.val 13, I.val 14, I.val 15, I.val 16, I.val 17, I.val 18, I.val 19, I.val 20, trivial⟩ rfl]
                  have sW3 : W2.heap.size ≤ W3.heap.size := I.below.size
                  replace ow4 := I.keep ow4.drawn trivial
                  replace ow5 := I.keep ow5.drawn trivial
                  replace ow6 := I.keep ow6.drawn trivial
                  replace ow7 := I.keep ow7.drawn trivial
                  have hW3 : Bel w.heap.size w W3 := thenB hW2.drew I.below hW2.size
                  clear I
                  simp only [List.foldl_cons, List.foldl_nil, List.setIfInBounds_toArray, List.set_cons_zero, List.set_cons_succ]
                  go_upto_region 6 with fail
                  refine region_memo_f (B := W3.heap.size) (L := .val (.bool true) :: .val (.bool false) :: .val (.bool false) :: []) (by kernel_rfl) (Nat.le_refl _) ((by exact trivial))
                    ⟨fun a w R => mv (R.slot 9 rfl), fun a w R => notb (R.val 0), fun a w R => asg (R.val 1), trivial⟩ (fun act_ W4 I => ?_)
                  rw [I.act [(94, .bool true), (95, .bool false), (8, .bool false)]
                    ⟨I.val 0, I.val 1, I.val 2, trivial⟩ rfl]
                  have sW4 : W3.heap.size ≤ W4.heap.size := I.below.size
                  replace ow4 := I.keep ow4 trivial
                  replace ow5 := I.keep ow5 trivial
                  replace ow6 := I.keep ow6 trivial
                  replace ow7 := I.keep ow7 trivial
                  have hW4 : Bel w.heap.size w W4 := thenB hW3 I.below hW3.size
                  clear I
                  simp only [List.foldl_cons, List.foldl_nil, List.setIfInBounds_toArray, List.set_cons_zero, List.set_cons_succ]
                  clear ow4 ow5 ow6 ow7
                  go_wp2
                  try simp only [setCell_drawn]
                  refine bodyPost_ret (by first | (simp [results, Try.results54, go_sem]; done) | (simp [results, Try.results54, go_sem]; rfl)) rfl ⟨?_, hW4⟩
                  refine retb_eq ?_; simp only [rmB, t1_.out, t2_.out, t9_.out, t10_.out, t11_.out, t12_.out, t13_.out, t14_.out]; rfl
                · have t14_ := Lib.hid t14
                  clear t14
                  go_upto_region 5 with fail
                  refine region_memo (B := W2.heap.size) (L := .val (.agg #[.int .i64 a1, .int .i64 a2]) :: .val (.agg #[.int .i64 b1, .int .i64 b2]) :: .val (.agg #[.int .i64 c1, .int .i64 c2]) :: .val (.int .i64 (tn a1 a2 b1 b2 c1 c2)) :: .val (.agg #[.int .i64 a1, .int .i64 a2]) :: .val (.agg #[.int .i64 b1, .int .i64 b2]) :: .val (.agg #[.int .i64 d1, .int .i64 d2]) :: .val (.int .i64 (tn a1 a2 b1 b2 d1 d2)) :: .val (.bool false) :: .val (.bool false) :: .val (.agg #[.int .i64 c1, .int .i64 c2]) :: .val (.agg #[.int .i64 d1, .int .i64 d2]) :: .val (.agg #[.int .i64 a1, .int .i64 a2]) :: .val (.int .i64 (tn c1 c2 d1 d2 a1 a2)) :: .val (.agg #[.int .i64 c1, .int .i64 c2]) :: .val (.agg #[.int .i64 d1, .int .i64 d2]) :: .val (.agg #[.int .i64 b1, .int .i64 b2]) :: .val (.int .i64 (tn c1 c2 d1 d2 b1 b2)) :: .val (.bool false) :: .val (.bool false) :: .val (.bool false) :: []) (by kernel_rfl) (by kernel_rfl) (Nat.le_refl _) ((by exact trivial))
                    ⟨fun a w R => ld_P (R.slot 4 rfl) (R.keep ow4.drawn trivial) rfl rfl, fun a w R => ld_P (R.slot 5 rfl) (R.keep ow5.drawn trivial) rfl rfl, fun a w R => ld_P (R.slot 6 rfl) (R.keep ow6.drawn trivial) rfl rfl, fun a w R => cl_ttt (enter_at Try.func56) (R.val 0) (R.val 1) (R.val 2) (RTurn_in (in4_iff.1 hin_.out).1 (in4_iff.1 hin_.out).2.1 (in4_iff.1 hin_.out).2.2.1 _), fun a w R => ld_P (R.slot 4 rfl) (R.keep ow4.drawn trivial) rfl rfl, fun a w R => ld_P (R.slot 5 rfl) (R.keep ow5.drawn trivial) rfl rfl, fun a w R => ld_P (R.slot 7 rfl) (R.keep ow7.drawn trivial) rfl rfl, fun a w R => cl_ttt (enter_at Try.func56) (R.val 4) (R.val 5) (R.val 6) (RTurn_in (in4_iff.1 hin_.out).1 (in4_iff.1 hin_.out).2.1 (in4_iff.1 hin_.out).2.2.2 _), fun a w R => c_eql_tt (R.val 3) (R.val 7) (Try.underlying3) t13_.out, fun a w R => mv (R.val 8), fun a w R => ld_P (R.slot 6 rfl) (R.keep ow6.drawn trivial) rfl rfl, fun a w R => ld_P (R.slot 7 rfl) (R.keep ow7.drawn trivial) rfl rfl, fun a w R => ld_P (R.slot 4 rfl) (R.keep ow4.drawn trivial) rfl rfl, fun a w R => cl_ttt (enter_at Try.func56) (R.val 10) (R.val 11) (R.val 12) (RTurn_in (in4_iff.1 hin_.out).2.2.1 (in4_iff.1 hin_.out).2.2.2 (in4_iff.1 hin_.out).1 _), fun a w R => ld_P (R.slot 6 rfl) (R.keep ow6.drawn trivial) rfl rfl, fun a w R => ld_P (R.slot 7 rfl) (R.keep ow7.drawn trivial) rfl rfl, fun a w R => ld_P (R.slot 5 rfl) (R.keep ow5.drawn trivial) rfl rfl, fun a w R => cl_ttt (enter_at Try.func56) (R.val 14) (R.val 15) (R.val 16) (RTurn_in (in4_iff.1 hin_.out).2.2.1 (in4_iff.1 hin_.out).2.2.2 (in4_iff.1 hin_.out).2.1 _), fun a w R => c_eql_tt (R.val 13) (R.val 17) (Try.underlying3) t14_.out, fun a w R => pickn (R.val 9) (R.val 18), fun a w R => asg (R.val 19), trivial⟩ (fun act_ W3 I => ?_)
                  rw [I.act [(74, .agg #[.int .i64 a1, .int .i64 a2]), (75, .agg #[.int .i64 b1, .int .i64 b2]), (76, .agg #[.int .i64 c1, .int .i64 c2]), (77, .int .i64 (tn a1 a2 b1 b2 c1 c2)), (78, .agg #[.int .i64 a1, .int .i64 a2]), (79, .agg #[.int .i64 b1, .int .i64 b2]), (80, .agg #[.int .i64 d1, .int .i64 d2]), (81, .int .i64 (tn a1 a2 b1 b2 d1 d2)), (82, .bool false), (83, .bool false), (84, .agg #[.int .i64 c1, .int .i64 c2]), (85, .agg #[.int .i64 d1, .int .i64 d2]), (86, .agg #[.int .i64 a1, .int .i64 a2]), (87, .int .i64 (tn c1 c2 d1 d2 a1 a2)), (88, .agg #[.int .i64 c1, .int .i64 c2]), (89, .agg #[.int .i64 d1, .int .i64 d2]), (90, .agg #[.int .i64 b1, .int .i64 b2]), (91, .int .i64 (tn c1 c2 d1 d2 b1 b2)), (92, .bool false), (93, .bool false), (9, .bool false)]
                    ⟨I.val 0, I.val 1, I.val 2, I.val 3, I.val 4, I.val 5, I.val 6, I.val 7, I.val 8, I.val 9, I.val 10, I.val 11, I.val 12, I.val 13, I.val 14, I.val 15, I.val 16, I.val 17, I.val 18, I.val 19, I.val 20, trivial⟩ rfl]
                  have sW3 : W2.heap.size ≤ W3.heap.size := I.below.size
                  replace ow4 := I.keep ow4.drawn trivial
                  replace ow5 := I.keep ow5.drawn trivial
                  replace ow6 := I.keep ow6.drawn trivial
                  replace ow7 := I.keep ow7.drawn trivial
                  have hW3 : Bel w.heap.size w W3 := thenB hW2.drew I.below hW2.size
                  clear I
                  simp only [List.foldl_cons, List.foldl_nil, List.setIfInBounds_toArray, List.set_cons_zero, List.set_cons_succ]
                  go_upto_region 6 with fail
                  refine region_memo_f (B := W3.heap.size) (L := .val (.bool false) :: .val (.bool true) :: .val (.bool true) :: []) (by kernel_rfl) (Nat.le_refl _) ((by exact trivial))
                    ⟨fun a w R => mv (R.slot 9 rfl), fun a w R => notb (R.val 0), fun a w R => asg (R.val 1), trivial⟩ (fun act_ W4 I => ?_)
                  rw [I.act [(94, .bool false), (95, .bool true), (8, .bool true)]
                    ⟨I.val 0, I.val 1, I.val 2, trivial⟩ rfl]
                  have sW4 : W3.heap.size ≤ W4.heap.size := I.below.size
                  replace ow4 := I.keep ow4 trivial
                  replace ow5 := I.keep ow5 trivial
                  replace ow6 := I.keep ow6 trivial
                  replace ow7 := I.keep ow7 trivial
                  have hW4 : Bel w.heap.size w W4 := thenB hW3 I.below hW3.size
                  clear I
                  simp only [List.foldl_cons, List.foldl_nil, List.setIfInBounds_toArray, List.set_cons_zero, List.set_cons_succ]
                  clear ow4 ow5 ow6 ow7
                  go_wp2
                  try simp only [setCell_drawn]
                  refine bodyPost_ret (by first | (simp [results, Try.results54, go_sem]; done) | (simp [results, Try.results54, go_sem]; rfl)) rfl ⟨?_, hW4⟩
                  refine retb_eq ?_; simp only [rmB, t1_.out, t2_.out, t9_.out, t10_.out, t11_.out, t12_.out, t13_.out, t14_.out]; rfl
  · have t1_ := Lib.hid t1
    clear t1
    go_upto_region 1 with fail
    refine region_memo_f (B := W0.heap.size) (L := .val (.agg #[.int .i64 a1, .int .i64 a2]) :: .val (.agg #[.int .i64 b1, .int .i64 b2]) :: .val (.agg #[.int .i64 c1, .int .i64 c2]) :: .val (.int .i64 (tn a1 a2 b1 b2 c1 c2)) :: .val (.bool false) :: .val (.bool false) :: .skip :: .skip :: .skip :: .skip :: .skip :: .val (.bool false) :: []) (by kernel_rfl) (Nat.le_refl _) ((by exact trivial))
      ⟨fun a w R => ld_P (R.slot 4 rfl) (R.keep ow4 trivial) rfl rfl, fun a w R => ld_P (R.slot 5 rfl) (R.keep ow5 trivial) rfl rfl, fun a w R => ld_P (R.slot 6 rfl) (R.keep ow6 trivial) rfl rfl, fun a w R => cl_ttt (enter_at Try.func56) (R.val 0) (R.val 1) (R.val 2) (RTurn_in (in4_iff.1 hin_.out).1 (in4_iff.1 hin_.out).2.1 (in4_iff.1 hin_.out).2.2.1 _), fun a w R => c_eql_tk (R.val 3) (Try.underlying3) t1_.out, fun a w R => mv (R.val 4), fun a w R => True.intro, fun a w R => True.intro, fun a w R => True.intro, fun a w R => True.intro, fun a w R => True.intro, fun a w R => pickf (R.val 5) (R.goneS 10), trivial⟩ (fun act_ W1 I => ?_)
    rw [I.act [(10, .agg #[.int .i64 a1, .int .i64 a2]), (11, .agg #[.int .i64 b1, .int .i64 b2]), (12, .agg #[.int .i64 c1, .int .i64 c2]), (13, .int .i64 (tn a1 a2 b1 b2 c1 c2)), (14, .bool false), (15, .bool false), (16, undef), (17, undef), (18, undef), (19, undef), (20, undef), (21, .bool false)]
      ⟨I.val 0, I.val 1, I.val 2, I.val 3, I.val 4, I.val 5, I.gone 6, I.gone 7, I.gone 8, I.gone 9, I.gone 10, I.val 11, trivial⟩ rfl]
    have sW1 : W0.heap.size ≤ W1.heap.size := I.below.size
    replace ow4 := I.keep ow4 trivial
    replace ow5 := I.keep ow5 trivial
    replace ow6 := I.keep ow6 trivial
    replace ow7 := I.keep ow7 trivial
    have hW1 : Bel w.heap.size w W1 := thenB hW0 I.below hW0.size
    clear I
    simp only [List.foldl_cons, List.foldl_nil, List.setIfInBounds_toArray, List.set_cons_zero, List.set_cons_succ]
    rcases Bool.eq_false_or_eq_true (decide (a1 = c1 ∧ a2 = c2)) with t15 | t15
    · have t15_ := Lib.hid t15
      clear t15
      go_upto_region 3 with fail
      refine region_memo_f (B := W1.heap.size) (L := .val (.agg #[.int .i64 a1, .int .i64 a2]) :: .val (.agg #[.int .i64 c1, .int .i64 c2]) :: .val (.bool true) :: .val (.bool true) :: .skip :: .skip :: .skip :: .val (.bool true) :: .val (.bool true) :: .skip :: .skip :: .skip :: .val (.bool true) :: .val (.bool true) :: .skip :: .skip :: .skip :: .val (.bool true) :: []) (by kernel_rfl) (Nat.le_refl _) ((by exact trivial))
        ⟨fun a w R => ld_P (R.slot 4 rfl) (R.keep ow4 trivial) rfl rfl, fun a w R => ld_P (R.slot 6 rfl) (R.keep ow6 trivial) rfl rfl, fun a w R => (e_eql_P (R.val 0) (R.val 1) ((fun w => (eq_Point _ _ _ _ w).trans (by rw [t15_.out])))), fun a w R => mv (R.val 2), fun a w R => True.intro, fun a w R => True.intro, fun a w R => True.intro, fun a w R => picko (R.val 3) (R.goneS 6), fun a w R => mv (R.val 7), fun a w R => True.intro, fun a w R => True.intro, fun a w R => True.intro, fun a w R => picko (R.val 8) (R.goneS 11), fun a w R => mv (R.val 12), fun a w R => True.intro, fun a w R => True.intro, fun a w R => True.intro, fun a w R => picko (R.val 13) (R.goneS 16), trivial⟩ (fun act_ W2 I => ?_)
      rw [I.act [(56, .agg #[.int .i64 a1, .int .i64 a2]), (57, .agg #[.int .i64 c1, .int .i64 c2]), (58, .bool true), (59, .bool true), (60, undef), (61, undef), (62, undef), (63, .bool true), (64, .bool true), (65, undef), (66, undef), (67, undef), (68, .bool true), (69, .bool true), (70, undef), (71, undef), (72, undef), (73, .bool true)]
        ⟨I.val 0, I.val 1, I.val 2, I.val 3, I.gone 4, I.gone 5, I.gone 6, I.val 7, I.val 8, I.gone 9, I.gone 10, I.gone 11, I.val 12, I.val 13, I.gone 14, I.gone 15, I.gone 16, I.val 17, trivial⟩ rfl]
      have sW2 : W1.heap.size ≤ W2.heap.size := I.below.size
      replace ow4 := I.keep ow4 trivial
      replace ow5 := I.keep ow5 trivial
      replace ow6 := I.keep ow6 trivial
      replace ow7 := I.keep ow7 trivial
      have hW2 : Bel w.heap.size w W2 := thenB hW1 I.below hW1.size
      clear I
      simp only [List.foldl_cons, List.foldl_nil, List.setIfInBounds_toArray, List.set_cons_zero, List.set_cons_succ]
      go_upto_region 4 with fail
      refine region_memo_f (B := W2.heap.size) (L := .val (.bool false) :: []) (by kernel_rfl) (Nat.le_refl _) ((by exact trivial))
        ⟨fun a w R => asc, trivial⟩ (fun act_ W3 I => ?_)
      rw [I.act [(8, .bool false)]
        ⟨I.val 0, trivial⟩ rfl]
      have sW3 : W2.heap.size ≤ W3.heap.size := I.below.size
      replace ow4 := I.keep ow4 trivial
      replace ow5 := I.keep ow5 trivial
      replace ow6 := I.keep ow6 trivial
      replace ow7 := I.keep ow7 trivial
      have hW3 : Bel w.heap.size w W3 := thenB hW2 I.below hW2.size
      clear I
      simp only [List.foldl_cons, List.foldl_nil, List.setIfInBounds_toArray, List.set_cons_zero, List.set_cons_succ]
      clear ow4 ow5 ow6 ow7
      go_wp2
      try simp only [setCell_drawn]
      refine bodyPost_ret (by first | (simp [results, Try.results54, go_sem]; done) | (simp [results, Try.results54, go_sem]; rfl)) rfl ⟨?_, hW3⟩
      refine retb_eq ?_; simp only [rmB, t1_.out, t15_.out]; rfl
    · have t15_ := Lib.hid t15
      clear t15
      rcases Bool.eq_false_or_eq_true (decide (a1 = d1 ∧ a2 = d2)) with t16 | t16
      · have t16_ := Lib.hid t16
        clear t16
        go_upto_region 3 with fail
        refine region_memo_f (B := W1.heap.size) (L := .val (.agg #[.int .i64 a1, .int .i64 a2]) :: .val (.agg #[.int .i64 c1, .int .i64 c2]) :: .val (.bool false) :: .val (.bool false) :: .val (.agg #[.int .i64 a1, .int .i64 a2]) :: .val (.agg #[.int .i64 d1, .int .i64 d2]) :: .val (.bool true) :: .val (.bool true) :: .val (.bool true) :: .skip :: .skip :: .skip :: .val (.bool true) :: .val (.bool true) :: .skip :: .skip :: .skip :: .val (.bool true) :: []) (by kernel_rfl) (Nat.le_refl _) ((by exact trivial))
          ⟨fun a w R => ld_P (R.slot 4 rfl) (R.keep ow4 trivial) rfl rfl, fun a w R => ld_P (R.slot 6 rfl) (R.keep ow6 trivial) rfl rfl, fun a w R => (e_eql_P (R.val 0) (R.val 1) ((fun w => (eq_Point _ _ _ _ w).trans (by rw [t15_.out])))), fun a w R => mv (R.val 2), fun a w R => ld_P (R.slot 4 rfl) (R.keep ow4 trivial) rfl rfl, fun a w R => ld_P (R.slot 7 rfl) (R.keep ow7 trivial) rfl rfl, fun a w R => (e_eql_P (R.val 4) (R.val 5) ((fun w => (eq_Point _ _ _ _ w).trans (by rw [t16_.out])))), fun a w R => pickn (R.val 3) (R.val 6), fun a w R => mv (R.val 7), fun a w R => True.intro, fun a w R => True.intro, fun a w R => True.intro, fun a w R => picko (R.val 8) (R.goneS 11), fun a w R => mv (R.val 12), fun a w R => True.intro, fun a w R => True.intro, fun a w R => True.intro, fun a w R => picko (R.val 13) (R.goneS 16), trivial⟩ (fun act_ W2 I => ?_)
        rw [I.act [(56, .agg #[.int .i64 a1, .int .i64 a2]), (57, .agg #[.int .i64 c1, .int .i64 c2]), (58, .bool false), (59, .bool false), (60, .agg #[.int .i64 a1, .int .i64 a2]), (61, .agg #[.int .i64 d1, .int .i64 d2]), (62, .bool true), (63, .bool true), (64, .bool true), (65, undef), (66, undef), (67, undef), (68, .bool true), (69, .bool true), (70, undef), (71, undef), (72, undef), (73, .bool true)]
          ⟨I.val 0, I.val 1, I.val 2, I.val 3, I.val 4, I.val 5, I.val 6, I.val 7, I.val 8, I.gone 9, I.gone 10, I.gone 11, I.val 12, I.val 13, I.gone 14, I.gone 15, I.gone 16, I.val 17, trivial⟩ rfl]
        have sW2 : W1.heap.size ≤ W2.heap.size := I.below.size
        replace ow4 := I.keep ow4 trivial
        replace ow5 := I.keep ow5 trivial
        replace ow6 := I.keep ow6 trivial
        replace ow7 := I.keep ow7 trivial
        have hW2 : Bel w.heap.size w W2 := thenB hW1 I.below hW1.size
        clear I
        simp only [List.foldl_cons, List.foldl_nil, List.setIfInBounds_toArray, List.set_cons_zero, List.set_cons_succ]
        go_upto_region 4 with fail
        refine region_memo_f (B := W2.heap.size) (L := .val (.bool false) :: []) (by kernel_rfl) (Nat.le_refl _) ((by exact trivial))
          ⟨fun a w R => asc, trivial⟩ (fun act_ W3 I => ?_)
        rw [I.act [(8, .bool false)]
          ⟨I.val 0, trivial⟩ rfl]
        have sW3 : W2.heap.size ≤ W3.heap.size := I.below.size
        replace ow4 := I.keep ow4 trivial
        replace ow5 := I.keep ow5 trivial
        replace ow6 := I.keep ow6 trivial
        replace ow7 := I.keep ow7 trivial
        have hW3 : Bel w.heap.size w W3 := thenB hW2 I.below hW2.size
        clear I
        simp only [List.foldl_cons, List.foldl_nil, List.setIfInBounds_toArray, List.set_cons_zero, List.set_cons_succ]
        clear ow4 ow5 ow6 ow7
        go_wp2
        try simp only [setCell_drawn]
        refine bodyPost_ret (by first | (simp [results, Try.results54, go_sem]; done) | (simp [results, Try.results54, go_sem]; rfl)) rfl ⟨?_, hW3⟩
        refine retb_eq ?_; simp only [rmB, t1_.out, t15_.out, t16_.out]; rfl
      · have t16_ := Lib.hid t16
        clear t16
        rcases Bool.eq_false_or_eq_true (decide (b1 = c1 ∧ b2 = c2)) with t17 | t17
        · have t17_ := Lib.hid t17
          clear t17
          go_upto_region 3 with fail
          refine region_memo_f (B := W1.heap.size) (L := .val (.agg #[.int .i64 a1, .int .i64 a2]) :: .val (.agg #[.int .i64 c1, .int .i64 c2]) :: .val (.bool false) :: .val (.bool false) :: .val (.agg #[.int .i64 a1, .int .i64 a2]) :: .val (.agg #[.int .i64 d1, .int .i64 d2]) :: .val (.bool false) :: .val (.bool false) :: .val (.bool false) :: .val (.agg #[.int .i64 b1, .int .i64 b2]) :: .val (.agg #[.int .i64 c1, .int .i64 c2]) :: .val (.bool true) :: .val (.bool true) :: .val (.bool true) :: .skip :: .skip :: .skip :: .val (.bool true) :: []) (by kernel_rfl) (Nat.le_refl _) ((by exact trivial))
            ⟨fun a w R => ld_P (R.slot 4 rfl) (R.keep ow4 trivial) rfl rfl, fun a w R => ld_P (R.slot 6 rfl) (R.keep ow6 trivial) rfl rfl, fun a w R => (e_eql_P (R.val 0) (R.val 1) ((fun w => (eq_Point _ _ _ _ w).trans (by rw [t15_.out])))), fun a w R => mv (R.val 2), fun a w R => ld_P (R.slot 4 rfl) (R.keep ow4 trivial) rfl rfl, fun a w R => ld_P (R.slot 7 rfl) (R.keep ow7 trivial) rfl rfl, fun a w R => (e_eql_P (R.val 4) (R.val 5) ((fun w => (eq_Point _ _ _ _ w).trans (by rw [t16_.out])))), fun a w R => pickn (R.val 3) (R.val 6), fun a w R => mv (R.val 7), fun a w R => ld_P (R.slot 5 rfl) (R.keep ow5 trivial) rfl rfl, fun a w R => ld_P (R.slot 6 rfl) (R.keep ow6 trivial) rfl rfl, fun a w R => (e_eql_P (R.val 9) (R.val 10) ((fun w => (eq_Point _ _ _ _ w).trans (by rw [t17_.out])))), fun a w R => pickn (R.val 8) (R.val 11), fun a w R => mv (R.val 12), fun a w R => True.intro, fun a w R => True.intro, fun a w R => True.intro, fun a w R => picko (R.val 13) (R.goneS 16), trivial⟩ (fun act_ W2 I => ?_)
          rw [I.act [(56, .agg #[.int .i64 a1, .int .i64 a2]), (57, .agg #[.int .i64 c1, .int .i64 c2]), (58, .bool false), (59, .bool false), (60, .agg #[.int .i64 a1, .int .i64 a2]), (61, .agg #[.int .i64 d1, .int .i64 d2]), (62, .bool false), (63, .bool false), (64, .bool false), (65, .agg #[.int .i64 b1, .int .i64 b2]), (66, .agg #[.int .i64 c1, .int .i64 c2]), (67, .bool true), (68, .bool true), (69, .bool true), (70, undef), (71, undef), (72, undef), (73, .bool true)]
            ⟨I.val 0, I.val 1, I.val 2, I.val 3, I.val 4, I.val 5, I.val 6, I.val 7, I.val 8, I.val 9, I.val 10, I.val 11, I.val 12, I.val 13, I.gone 14, I.gone 15, I.gone 16, I.val 17, trivial⟩ rfl]
          have sW2 : W1.heap.size ≤ W2.heap.size := I.below.size
          replace ow4 := I.keep ow4 trivial
          replace ow5 := I.keep ow5 trivial
          replace ow6 := I.keep ow6 trivial
          replace ow7 := I.keep ow7 trivial
          have hW2 : Bel w.heap.size w W2 := thenB hW1 I.below hW1.size
          clear I
          simp only [List.foldl_cons, List.foldl_nil, List.setIfInBounds_toArray, List.set_cons_zero, List.set_cons_succ]
          go_upto_region 4 with fail
          refine region_memo_f (B := W2.heap.size) (L := .val (.bool false) :: []) (by kernel_rfl) (Nat.le_refl _) ((by exact trivial))
            ⟨fun a w R => asc, trivial⟩ (fun act_ W3 I => ?_)
          rw [I.act [(8, .bool false)]
            ⟨I.val 0, trivial⟩ rfl]
          have sW3 : W2.heap.size ≤ W3.heap.size := I.below.size
          replace ow4 := I.keep ow4 trivial
          replace ow5 := I.keep ow5 trivial
          replace ow6 := I.keep ow6 trivial
          replace ow7 := I.keep ow7 trivial
          have hW3 : Bel w.heap.size w W3 := thenB hW2 I.below hW2.size
          clear I
          simp only [List.foldl_cons, List.foldl_nil, List.setIfInBounds_toArray, List.set_cons_zero, List.set_cons_succ]
          clear ow4 ow5 ow6 ow7
          go_wp2
          try simp only [setCell_drawn]
          refine bodyPost_ret (by first | (simp [results, Try.results54, go_sem]; done) | (simp [results, Try.results54, go_sem]; rfl)) rfl ⟨?_, hW3⟩
          refine retb_eq ?_; simp only [rmB, t1_.out, t15_.out, t16_.out, t17_.out]; rfl
        · have t17_ := Lib.hid t17
          clear t17
          rcases Bool.eq_false_or_eq_true (decide (b1 = d1 ∧ b2 = d2)) with t18 | t18
          · have t18_ := Lib.hid t18
            clear t18
            go_upto_region 3 with fail
            refine region_memo_f (B := W1.heap.size) (L := .val (.agg #[.int .i64 a1, .int .i64 a2]) :: .val (.agg #[.int .i64 c1, .int .i64 c2]) :: .val (.bool false) :: .val (.bool false) :: .val (.agg #[.int .i64 a1, .int .i64 a2]) :: .val (.agg #[.int .i64 d1, .int .i64 d2]) :: .val (.bool false) :: .val (.bool false) :: .val (.bool false) :: .val (.agg #[.int .i64 b1, .int .i64 b2]) :: .val (.agg #[.int .i64 c1, .int .i64 c2]) :: .val (.bool false) :: .val (.bool false) :: .val (.bool false) :: .val (.agg #[.int .i64 b1, .int .i64 b2]) :: .val (.agg #[.int .i64 d1, .int .i64 d2]) :: .val (.bool true) :: .val (.bool true) :: []) (by kernel_rfl) (Nat.le_refl _) ((by exact trivial))
              ⟨fun a w R => ld_P (R.slot 4 rfl) (R.keep ow4 trivial) rfl rfl, fun a w R => ld_P (R.slot 6 rfl) (R.keep ow6 trivial) rfl rfl, fun a w R => (e_eql_P (R.val 0) (R.val 1) ((fun w => (eq_Point _ _ _ _ w).trans (by rw [t15_.out])))), fun a w R => mv (R.val 2), fun a w R => ld_P (R.slot 4 rfl) (R.keep ow4 trivial) rfl rfl, fun a w R => ld_P (R.slot 7 rfl) (R.keep ow7 trivial) rfl rfl, fun a w R => (e_eql_P (R.val 4) (R.val 5) ((fun w => (eq_Point _ _ _ _ w).trans (by rw [t16_.out])))), fun a w R => pickn (R.val 3) (R.val 6), fun a w R => mv (R.val 7), fun a w R => ld_P (R.slot 5 rfl) (R.keep ow5 trivial) rfl rfl, fun a w R => ld_P (R.slot 6 rfl) (R.keep ow6 trivial) rfl rfl, fun a w R => (e_eql_P (R.val 9) (R.val 10) ((fun w => (eq_Point _ _ _ _ w).trans (by rw [t17_.out])))), fun a w R => pickn (R.val 8) (R.val 11), fun a w R => mv (R.val 12), fun a w R => ld_P (R.slot 5 rfl) (R.keep ow5 trivial) rfl rfl, fun a w R => ld_P (R.slot 7 rfl) (R.keep ow7 trivial) rfl rfl, fun a w R => (e_eql_P (R.val 14) (R.val 15) ((fun w => (eq_Point _ _ _ _ w).trans (by rw [t18_.out])))), fun a w R => pickn (R.val 13) (R.val 16), trivial⟩ (fun act_ W2 I => ?_)
            rw [I.act [(56, .agg #[.int .i64 a1, .int .i64 a2]), (57, .agg #[.int .i64 c1, .int .i64 c2]), (58, .bool false), (59, .bool false), (60, .agg #[.int .i64 a1, .int .i64 a2]), (61, .agg #[.int .i64 d1, .int .i64 d2]), (62, .bool false), (63, .bool false), (64, .bool false), (65, .agg #[.int .i64 b1, .int .i64 b2]), (66, .agg #[.int .i64 c1, .int .i64 c2]), (67, .bool false), (68, .bool false), (69, .bool false), (70, .agg #[.int .i64 b1, .int .i64 b2]), (71, .agg #[.int .i64 d1, .int .i64 d2]), (72, .bool true), (73, .bool true)]
              ⟨I.val 0, I.val 1, I.val 2, I.val 3, I.val 4, I.val 5, I.val 6, I.val 7, I.val 8, I.val 9, I.val 10, I.val 11, I.val 12, I.val 13, I.val 14, I.val 15, I.val 16, I.val 17, trivial⟩ rfl]
            have sW2 : W1.heap.size ≤ W2.heap.size := I.below.size
            replace ow4 := I.keep ow4 trivial
            replace ow5 := I.keep ow5 trivial
            replace ow6 := I.keep ow6 trivial
            replace ow7 := I.keep ow7 trivial
            have hW2 : Bel w.heap.size w W2 := thenB hW1 I.below hW1.size
            clear I
            simp only [List.foldl_cons, List.foldl_nil, List.setIfInBounds_toArray, List.set_cons_zero, List.set_cons_succ]
            go_upto_region 4 with fail
            refine region_memo_f (B := W2.heap.size) (L := .val (.bool false) :: []) (by kernel_rfl) (Nat.le_refl _) ((by exact trivial))
              ⟨fun a w R => asc, trivial⟩ (fun act_ W3 I => ?_)
            rw [I.act [(8, .bool false)]
              ⟨I.val 0, trivial⟩ rfl]
            have sW3 : W2.heap.size ≤ W3.heap.size := I.below.size
            replace ow4 := I.keep ow4 trivial
            replace ow5 := I.keep ow5 trivial
            replace ow6 := I.keep ow6 trivial
            replace ow7 := I.keep ow7 trivial
            have hW3 : Bel w.heap.size w W3 := thenB hW2 I.below hW2.size
            clear I
            simp only [List.foldl_cons, List.foldl_nil, List.setIfInBounds_toArray, List.set_cons_zero, List.set_cons_succ]
            clear ow4 ow5 ow6 ow7
            go_wp2
            try simp only [setCell_drawn]
            refine bodyPost_ret (by first | (simp [results, Try.results54, go_sem]; done) | (simp [results, Try.results54, go_sem]; rfl)) rfl ⟨?_, hW3⟩
            refine retb_eq ?_; simp only [rmB, t1_.out, t15_.out, t16_.out, t17_.out, t18_.out]; rfl
          · have t18_ := Lib.hid t18
            clear t18
            go_upto_region 3 with fail
            refine region_memo_f (B := W1.heap.size) (L := .val (.agg #[.int .i64 a1, .int .i64 a2]) :: .val (.agg #[.int .i64 c1, .int .i64 c2]) :: .val (.bool false) :: .val (.bool false) :: .val (.agg #[.int .i64 a1, .int .i64 a2]) :: .val (.agg #[.int .i64 d1, .int .i64 d2]) :: .val (.bool false) :: .val (.bool false) :: .val (.bool false) :: .val (.agg #[.int .i64 b1, .int .i64 b2]) :: .val (.agg #[.int .i64 c1, .int .i64 c2]) :: .val (.bool false) :: .val (.bool false) :: .val (.bool false) :: .val (.agg #[.int .i64 b1, .int .i64 b2]) :: .val (.agg #[.int .i64 d1, .int .i64 d2]) :: .val (.bool false) :: .val (.bool false) :: []) (by kernel_rfl) (Nat.le_refl _) ((by exact trivial))
              ⟨fun a w R => ld_P (R.slot 4 rfl) (R.keep ow4 trivial) rfl rfl, fun a w R => ld_P (R.slot 6 rfl) (R.keep ow6 trivial) rfl rfl, fun a w R => (e_eql_P (R.val 0) (R.val 1) ((fun w => (eq_Point _ _ _ _ w).trans (by rw [t15_.out])))), fun a w R => mv (R.val 2), fun a w R => ld_P (R.slot 4 rfl) (R.keep ow4 trivial) rfl rfl, fun a w R => ld_P (R.slot 7 rfl) (R.keep ow7 trivial) rfl rfl, fun a w R => (e_eql_P (R.val 4) (R.val 5) ((fun w => (eq_Point _ _ _ _ w).trans (by rw [t16_.out])))), fun a w R => pickn (R.val 3) (R.val 6), fun a w R => mv (R.val 7), fun a w R => ld_P (R.slot 5 rfl) (R.keep ow5 trivial) rfl rfl, fun a w R => ld_P (R.slot 6 rfl) (R.keep ow6 trivial) rfl rfl, fun a w R => (e_eql_P (R.val 9) (R.val 10) ((fun w => (eq_Point _ _ _ _ w).trans (by rw [t17_.out])))), fun a w R => pickn (R.val 8) (R.val 11), fun a w R => mv (R.val 12), fun a w R => ld_P (R.slot 5 rfl) (R.keep ow5 trivial) rfl rfl, fun a w R => ld_P (R.slot 7 rfl) (R.keep ow7 trivial) rfl rfl, fun a w R => (e_eql_P (R.val 14) (R.val 15) ((fun w => (eq_Point _ _ _ _ w).trans (by rw [t18_.out])))), fun a w R => pickn (R.val 13) (R.val 16), trivial⟩ (fun act_ W2 I => ?_)
            rw [I.act [(56, .agg #[.int .i64 a1, .int .i64 a2]), (57, .agg #[.int .i64 c1, .int .i64 c2]), (58, .bool false), (59, .bool false), (60, .agg #[.int .i64 a1, .int .i64 a2]), (61, .agg #[.int .i64 d1, .int .i64 d2]), (62, .bool false), (63, .bool false), (64, .bool false), (65, .agg #[.int .i64 b1, .int .i64 b2]), (66, .agg #[.int .i64 c1, .int .i64 c2]), (67, .bool false), (68, .bool false), (69, .bool false), (70, .agg #[.int .i64 b1, .int .i64 b2]), (71, .agg #[.int .i64 d1, .int .i64 d2]), (72, .bool false), (73, .bool false)]
              ⟨I.val 0, I.val 1, I.val 2, I.val 3, I.val 4, I.val 5, I.val 6, I.val 7, I.val 8, I.val 9, I.val 10, I.val 11, I.val 12, I.val 13, I.val 14, I.val 15, I.val 16, I.val 17, trivial⟩ rfl]
            have sW2 : W1.heap.size ≤ W2.heap.size := I.below.size
            replace ow4 := I.keep ow4 trivial
            replace ow5 := I.keep ow5 trivial
            replace ow6 := I.keep ow6 trivial
            replace ow7 := I.keep ow7 trivial
            have hW2 : Bel w.heap.size w W2 := thenB hW1 I.below hW1.size
            clear I
            simp only [List.foldl_cons, List.foldl_nil, List.setIfInBounds_toArray, List.set_cons_zero, List.set_cons_succ]
            rcases Bool.eq_false_or_eq_true ((tn a1 a2 b1 b2 c1 c2 == tn a1 a2 b1 b2 d1 d2)) with t19 | t19
            · have t19_ := Lib.hid t19
              clear t19
              go_upto_region 5 with fail
              refine region_memo (B := W2.heap.size) (L := .val (.agg #[.int .i64 a1, .int .i64 a2]) :: .val (.agg #[.int .i64 b1, .int .i64 b2]) :: .val (.agg #[.int .i64 c1, .int .i64 c2]) :: .val (.int .i64 (tn a1 a2 b1 b2 c1 c2)) :: .val (.agg #[.int .i64 a1, .int .i64 a2]) :: .val (.agg #[.int .i64 b1, .int .i64 b2]) :: .val (.agg #[.int .i64 d1, .int .i64 d2]) :: .val (.int .i64 (tn a1 a2 b1 b2 d1 d2)) :: .val (.bool true) :: .val (.bool true) :: .skip :: .skip :: .skip :: .skip :: .skip :: .skip :: .skip :: .skip :: .skip :: .val (.bool true) :: .val (.bool true) :: []) (by kernel_rfl) (by kernel_rfl) (Nat.le_refl _) ((by exact trivial))
                ⟨fun a w R => ld_P (R.slot 4 rfl) (R.keep ow4.drawn trivial) rfl rfl, fun a w R => ld_P (R.slot 5 rfl) (R.keep ow5.drawn trivial) rfl rfl, fun a w R => ld_P (R.slot 6 rfl) (R.keep ow6.drawn trivial) rfl rfl, fun a w R => cl_ttt (enter_at Try.func56) (R.val 0) (R.val 1) (R.val 2) (RTurn_in (in4_iff.1 hin_.out).1 (in4_iff.1 hin_.out).2.1 (in4_iff.1 hin_.out).2.2.1 _), fun a w R => ld_P (R.slot 4 rfl) (R.keep ow4.drawn trivial) rfl rfl, fun a w R => ld_P (R.slot 5 rfl) (R.keep ow5.drawn trivial) rfl rfl, fun a w R => ld_P (R.slot 7 rfl) (R.keep ow7.drawn trivial) rfl rfl, fun a w R => cl_ttt (enter_at Try.func56) (R.val 4) (R.val 5) (R.val 6) (RTurn_in (in4_iff.1 hin_.out).1 (in4_iff.1 hin_.out).2.1 (in4_iff.1 hin_.out).2.2.2 _), fun a w R => c_eql_tt (R.val 3) (R.val 7) (Try.underlying3) t19_.out, fun a w R => mv (R.val 8), fun a w R => True.intro, fun a w R => True.intro, fun a w R => True.intro, fun a w R => True.intro, fun a w R => True.intro, fun a w R => True.intro, fun a w R => True.intro, fun a w R => True.intro, fun a w R => True.intro, fun a w R => picko (R.val 9) (R.goneS 18), fun a w R => asg (R.val 19), trivial⟩ (fun act_ W3 I => ?_)
              rw [I.act [(74, .agg #[.int .i64 a1, .int .i64 a2]), (75, .agg #[.int .i64 b1, .int .i64 b2]), (76, .agg #[.int .i64 c1, .int .i64 c2]), (77, .int .i64 (tn a1 a2 b1 b2 c1 c2)), (78, .agg #[.int .i64 a1, .int .i64 a2]), (79, .agg #[.int .i64 b1, .int .i64 b2]), (80, .agg #[.int .i64 d1, .int .i64 d2]), (81, .int .i64 (tn a1 a2 b1 b2 d1 d2)), (82, .bool true), (83, .bool true), (84, undef), (85, undef), (86, undef), (87, undef), (88, undef), (89, undef), (90, undef), (91, undef), (92, undef), (93, .bool true), (9, .bool true)]
                ⟨I.val 0, I.val 1, I.val 2, I.val 3, I.val 4, I.val 5, I.val 6, I.val 7, I.val 8, I.val 9, I.gone 10, I.gone 11, I.gone 12, I.gone 13, I.gone 14, I.gone 15, I.gone 16, I.gone 17, I.gone 18, I.val 19, I.val 20, trivial⟩ rfl]
              have sW3 : W2.heap.size ≤ W3.heap.size := I.below.size
              replace ow4 := I.keep ow4.drawn trivial
              replace ow5 := I.keep ow5.drawn trivial
              replace ow6 := I.keep ow6.drawn trivial
              replace ow7 := I.keep ow7.drawn trivial
              have hW3 : Bel w.heap.size w W3 := thenB hW2.drew I.below hW2.size
              clear I
              simp only [List.foldl_cons, List.foldl_nil, List.setIfInBounds_toArray, List.set_cons_zero, List.set_cons_succ]
              go_upto_region 6 with fail
              refine region_memo_f (B := W3.heap.size) (L := .val (.bool true) :: .val (.bool false) :: .val (.bool false) :: []) (by kernel_rfl) (Nat.le_refl _) ((by exact trivial))
                ⟨fun a w R => mv (R.slot 9 rfl), fun a w R => notb (R.val 0), fun a w R => asg (R.val 1), trivial⟩ (fun act_ W4 I => ?_)
              rw [I.act [(94, .bool true), (95, .bool false), (8, .bool false)]
                ⟨I.val 0, I.val 1, I.val 2, trivial⟩ rfl]
              have sW4 : W3.heap.size ≤ W4.heap.size := I.below.size
              replace ow4 := I.keep ow4 trivial
              replace ow5 := I.keep ow5 trivial
              replace ow6 := I.keep ow6 trivial
              replace ow7 := I.keep ow7 trivial
              have hW4 : Bel w.heap.size w W4 := thenB hW3 I.below hW3.size
              clear I
              simp only [List.foldl_cons, List.foldl_nil, List.setIfInBounds_toArray, List.set_cons_zero, List.set_cons_succ]
              clear ow4 ow5 ow6 ow7
              go_wp2
              try simp only [setCell_drawn]
              refine bodyPost_ret (by first | (simp [results, Try.results54, go_sem]; done) | (simp [results, Try.results54, go_sem]; rfl)) rfl ⟨?_, hW4⟩
              refine retb_eq ?_; simp only [rmB, t1_.out, t15_.out, t16_.out, t17_.out, t18_.out, t19_.out]; rfl
            · have t19_ := Lib.hid t19
              clear t19
              rcases Bool.eq_false_or_eq_true (((tn c1 c2 d1 d2 a1 a2) == (tn c1 c2 d1 d2 b1 b2))) with t20 | t20
              · have t20_ := Lib.hid t20
                clear t20
                go_upto_region 5 with fail
                refine region_memo (B := W2.heap.size) (L := .val (.agg #[.int .i64 a1, .int .i64 a2]) :: .val (.agg #[.int .i64 b1, .int .i64 b2]) :: .val (.agg #[.int .i64 c1, .int .i64 c2]) :: .val (.int .i64 (tn a1 a2 b1 b2 c1 c2)) :: .val (.agg #[.int .i64 a1, .int .i64 a2]) :: .val (.agg #[.int .i64 b1, .int .i64 b2]) :: .val (.agg #[.int .i64 d1, .int .i64 d2]) :: .val (.int .i64 (tn a1 a2 b1 b2 d1 d2)) :: .val (.bool false) :: .val (.bool false) :: .val (.agg #[.int .i64 c1, .int .i64 c2]) :: .val (.agg #[.int .i64 d1, .int .i64 d2]) :: .val (.agg #[.int .i64 a1, .int .i64 a2]) :: .val (.int .i64 (tn c1 c2 d1 d2 a1 a2)) :: .val (.agg #[.int .i64 c1, .int .i64 c2]) :: .val (.agg #[.int .i64 d1, .int .i64 d2]) :: .val (.agg #[.int .i64 b1, .int .i64 b2]) :: .val (.int .i64 (tn c1 c2 d1 d2 b1 b2)) :: .val (.bool true) :: .val (.bool true) :: .val (.bool true) :: []) (by kernel_rfl) (by kernel_rfl) (Nat.le_refl _) ((by exact trivial))
                  ⟨fun a w R => ld_P (R.slot 4 rfl) (R.keep ow4.drawn trivial) rfl rfl, fun a w R => ld_P (R.slot 5 rfl) (R.keep ow5.drawn trivial) rfl rfl, fun a w R => ld_P (R.slot 6 rfl) (R.keep ow6.drawn trivial) rfl rfl, fun a w R => cl_ttt (enter_at Try.func56) (R.val 0) (R.val 1) (R.val 2) (RTurn_in (in4_iff.1 hin_.out).1 (in4_iff.1 hin_.out).2.1 (in4_iff.1 hin_.out).2.2.1 _), fun a w R => ld_P (R.slot 4 rfl) (R.keep ow4.drawn trivial) rfl rfl, fun a w R => ld_P (R.slot 5 rfl) (R.keep ow5.drawn trivial) rfl rfl, fun a w R => ld_P (R.slot 7 rfl) (R.keep ow7.drawn trivial) rfl rfl, fun a w R => cl_ttt (enter_at Try.func56) (R.val 4) (R.val 5) (R.val 6) (RTurn_in (in4_iff.1 hin_.out).1 (in4_iff.1 hin_.out).2.1 (in4_iff.1 hin_.out).2.2.2 _), fun a w R => c_eql_tt (R.val 3) (R.val 7) (Try.underlying3) t19_.out, fun a w R => mv (R.val 8), fun a w R => ld_P (R.slot 6 rfl) (R.keep ow6.drawn trivial) rfl rfl, fun a w R => ld_P (R.slot 7 rfl) (R.keep ow7.drawn trivial) rfl rfl, fun a w R => ld_P (R.slot 4 rfl) (R.keep ow4.drawn trivial) rfl rfl, fun a w R => cl_ttt (enter_at Try.func56) (R.val 10) (R.val 11) (R.val 12) (RTurn_in (in4_iff.1 hin_.out).2.2.1 (in4_iff.1 hin_.out).2.2.2 (in4_iff.1 hin_.out).1 _), fun a w R => ld_P (R.slot 6 rfl) (R.keep ow6.drawn trivial) rfl rfl, fun a w R => ld_P (R.slot 7 rfl) (R.keep ow7.drawn trivial) rfl rfl, fun a w R => ld_P (R.slot 5 rfl) (R.keep ow5.drawn trivial) rfl rfl, fun a w R => cl_ttt (enter_at Try.func56) (R.val 14) (R.val 15) (R.val 16) (RTurn_in (in4_iff.1 hin_.out).2.2.1 (in4_iff.1 hin_.out).2.2.2 (in4_iff.1 hin_.out).2.1 _), fun a w R => c_eql_tt (R.val 13) (R.val 17) (Try.underlying3) t20_.out, fun a w R => pickn (R.val 9) (R.val 18), fun a w R => asg (R.val 19), trivial⟩ (fun act_ W3 I => ?_)
                rw [I.act [(74, .agg #[.int .i64 a1, .int .i64 a2]), (75, .agg #[.int .i64 b1, .int .i64 b2]), (76, .agg #[.int .i64 c1, .int .i64 c2]), (77, .int .i64 (tn a1 a2 b1 b2 c1 c2)), (78, .agg #[.int .i64 a1, .int .i64 a2]), (79, .agg #[.int .i64 b1, .int .i64 b2]), (80, .agg #[.int .i64 d1, .int .i64 d2]), (81, .int .i64 (tn a1 a2 b1 b2 d1 d2)), (82, .bool false), (83, .bool false), (84, .agg #[.int .i64 c1, .int .i64 c2]), (85, .agg #[.int .i64 d1, .int .i64 d2]), (86, .agg #[.int .i64 a1, .int .i64 a2]), (87, .int .i64 (tn c1 c2 d1 d2 a1 a2)), (88, .agg #[.int .i64 c1, .int .i64 c2]), (89, .agg #[.int .i64 d1, .int .i64 d2]), (90, .agg #[.int .i64 b1, .int .i64 b2]), (91, .int .i64 (tn c1 c2 d1 d2 b1 b2)), (92, .bool true), (93, .bool true), (9, .bool true)]
                  ⟨I.val 0, I.val 1, I.val 2, I.val 3, I.val 4, I.val 5, I.val 6, I.val 7, I.val 8, I.val 9, I.val 10, I.val 11, I.val 12, I.val 13, I.val 14, I.val 15, I.val 16, I.val 17, I.val 18, I.val 19, I.val 20, trivial⟩ rfl]
                have sW3 : W2.heap.size ≤ W3.heap.size := I.below.size
                replace ow4 := I.keep ow4.drawn trivial
                replace ow5 := I.keep ow5.drawn trivial
                replace ow6 := I.keep ow6.drawn trivial
                replace ow7 := I.keep ow7.drawn trivial
                have hW3 : Bel w.heap.size w W3 := thenB hW2.drew I.below hW2.size
                clear I
                simp only [List.foldl_cons, List.foldl_nil, List.setIfInBounds_toArray, List.set_cons_zero, List.set_cons_succ]
                go_upto_region 6 with fail
                refine region_memo_f (B := W3.heap.size) (L := .val (.bool true) :: .val (.bool false) :: .val (.bool false) :: []) (by kernel_rfl) (Nat.le_refl _) ((by exact trivial))
                  ⟨fun a w R => mv (R.slot 9 rfl), fun a w R => notb (R.val 0), fun a w R => asg (R.val 1), trivial⟩ (fun act_ W4 I => ?_)
                rw [I.act [(94, .bool true), (95, .bool false), (8, .bool false)]
                  ⟨I.val 0, I.val 1, I.val 2, trivial⟩ rfl]
                have sW4 : W3.heap.size ≤ W4.heap.size := I.below.size
                replace ow4 := I.keep ow4 trivial
                replace ow5 := I.keep ow5 trivial
                replace ow6 := I.keep ow6 trivial
                replace ow7 := I.keep ow7 trivial
                have hW4 : Bel w.heap.size w W4 := thenB hW3 I.below hW3.size
                clear I
                simp only [List.foldl_cons, List.foldl_nil, List.setIfInBounds_toArray, List.set_cons_zero, List.set_cons_succ]
                clear ow4 ow5 ow6 ow7
                go_wp2
                try simp only [setCell_drawn]
                refine bodyPost_ret (by first | (simp [results, Try.results54, go_sem]; done) | (simp [results, Try.results54, go_sem]; rfl)) rfl ⟨?_, hW4⟩
                refine retb_eq ?_; simp only [rmB, t1_.out, t15_.out, t16_.out, t17_.out, t18_.out, t19_.out, t20_.out]; rfl
              · have t20_ := Lib.hid t20
                clear t20
                go_upto_region 5 with fail
                refine region_memo (B := W2.heap.size) (L := .val (.agg #[.int .i64 a1, .int .i64 a2]) :: .val (.agg #[.int .i64 b1, .int .i64 b2]) :: .val (.agg #[.int .i64 c1, .int .i64 c2]) :: .val (.int .i64 (tn a1 a2 b1 b2 c1 c2)) :: .val (.agg #[.int .i64 a1, .int .i64 a2]) :: .val (.agg #[.int .i64 b1, .int .i64 b2]) :: .val (.agg #[.int .i64 d1, .int .i64 d2]) :: .val (.int .i64 (tn a1 a2 b1 b2 d1 d2)) :: .val (.bool false) :: .val (.bool false) :: .val (.agg #[.int .i64 c1, .int .i64 c2]) :: .val (.agg #[.int .i64 d1, .int .i64 d2]) :: .val (.agg #[.int .i64 a1, .int .i64 a2]) :: .val (.int .i64 (tn c1 c2 d1 d2 a1 a2)) :: .val (.agg #[.int .i64 c1, .int .i64 c2]) :: .val (.agg #[.int .i64 d1, .int .i64 d2]) :: .val (.agg #[.int .i64 b1, .int .i64 b2]) :: .val (.int .i64 (tn c1 c2 d1 d2 b1 b2)) :: .val (.bool false) :: .val (.bool false) :: .val (.bool false) :: []) (by kernel_rfl) (by kernel_rfl) (Nat.le_refl _) ((by exact trivial))
                  ⟨fun a w R => ld_P (R.slot 4 rfl) (R.keep ow4.drawn trivial) rfl rfl, fun a w R => ld_P (R.slot 5 rfl) (R.keep ow5.drawn trivial) rfl rfl, fun a w R => ld_P (R.slot 6 rfl) (R.keep ow6.drawn trivial) rfl rfl, fun a w R => cl_ttt (enter_at Try.func56) (R.val 0) (R.val 1) (R.val 2) (RTurn_in (in4_iff.1 hin_.out).1 (in4_iff.1 hin_.out).2.1 (in4_iff.1 hin_.out).2.2.1 _), fun a w R => ld_P (R.slot 4 rfl) (R.keep ow4.drawn trivial) rfl rfl, fun a w R => ld_P (R.slot 5 rfl) (R.keep ow5.drawn trivial) rfl rfl, fun a w R => ld_P (R.slot 7 rfl) (R.keep ow7.drawn trivial) rfl rfl, fun a w R => cl_ttt (enter_at Try.func56) (R.val 4) (R.val 5) (R.val 6) (RTurn_in (in4_iff.1 hin_.out).1 (in4_iff.1 hin_.out).2.1 (in4_iff.1 hin_.out).2.2.2 _), fun a w R => c_eql_tt (R.val 3) (R.val 7) (Try.underlying3) t19_.out, fun a w R => mv (R.val 8), fun a w R => ld_P (R.slot 6 rfl) (R.keep ow6.drawn trivial) rfl rfl, fun a w R => ld_P (R.slot 7 rfl) (R.keep ow7.drawn trivial) rfl rfl, fun a w R => ld_P (R.slot 4 rfl) (R.keep ow4.drawn trivial) rfl rfl, fun a w R => cl_ttt (enter_at Try.func56) (R.val 10) (R.val 11) (R.val 12) (RTurn_in (in4_iff.1 hin_.out).2.2.1 (in4_iff.1 hin_.out).2.2.2 (in4_iff.1 hin_.out).1 _), fun a w R => ld_P (R.slot 6 rfl) (R.keep ow6.drawn trivial) rfl rfl, fun a w R => ld_P (R.slot 7 rfl) (R.keep ow7.drawn trivial) rfl rfl, fun a w R => ld_P (R.slot 5 rfl) (R.keep ow5.drawn trivial) rfl rfl, fun a w R => cl_ttt (enter_at Try.func56) (R.val 14) (R.val 15) (R.val 16) (RTurn_in (in4_iff.1 hin_.out).2.2.1 (in4_iff.1 hin_.out).2.2.2 (in4_iff.1 hin_.out).2.1 _), fun a w R => c_eql_tt (R.val 13) (R.val 17) (Try.underlying3) t20_.out, fun a w R => pickn (R.val 9) (R.val 18), fun a w R => asg (R.val 19), trivial⟩ (fun act_ W3 I => ?_)
                rw [I.act [(74, .agg #[.int .i64 a1, .int .i64 a2]), (75, .agg #[.int .i64 b1, .int .i64 b2]), (76, .agg #[.int .i64 c1, .int .i64 c2]), (77, .int .i64 (tn a1 a2 b1 b2 c1 c2)), (78, .agg #[.int .i64 a1, .int .i64 a2]), (79, .agg #[.int .i64 b1, .int .i64 b2]), (80, .agg #[.int .i64 d1, .int .i64 d2]), (81, .int .i64 (tn a1 a2 b1 b2 d1 d2)), (82, .bool false), (83, .bool false), (84, .agg #[.int .i64 c1, .int .i64 c2]), (85, .agg #[.int .i64 d1, .int .i64 d2]), (86, .agg #[.int .i64 a1, .int .i64 a2]), (87, .int .i64 (tn c1 c2 d1 d2 a1 a2)), (88, .agg #[.int .i64 c1, .int .i64 c2]), (89, .agg #[.int .i64 d1, .int .i64 d2]), (90, .agg #[.int .i64 b1, .int .i64 b2]), (91, .int .i64 (tn c1 c2 d1 d2 b1 b2)), (92, .bool false), (93, .bool false), (9, .bool false)]
                  ⟨I.val 0, I.val 1, I.val 2, I.val 3, I.val 4, I.val 5, I.val 6, I.val 7, I.val 8, I.val 9, I.val 10, I.val 11, I.val 12, I.val 13, I.val 14, I.val 15, I.val 16, I.val 17, I.val 18, I.val 19, I.val 20, trivial⟩ rfl]
                have sW3 : W2.heap.size ≤ W3.heap.size := I.below.size
                replace ow4 := I.keep ow4.drawn trivial
                replace ow5 := I.keep ow5.drawn trivial
                replace ow6 := I.keep ow6.drawn trivial
                replace ow7 := I.keep ow7.drawn trivial
                have hW3 : Bel w.heap.size w W3 := thenB hW2.drew I.below hW2.size
                clear I
                simp only [List.foldl_cons, List.foldl_nil, List.setIfInBounds_toArray, List.set_cons_zero, List.set_cons_succ]
                go_upto_region 6 with fail
                refine region_memo_f (B := W3.heap.size) (L := .val (.bool false) :: .val (.bool true) :: .val (.bool true) :: []) (by kernel_rfl) (Nat.le_refl _) ((by exact trivial))
                  ⟨fun a w R => mv (R.slot 9 rfl), fun a w R => notb (R.val 0), fun a w R => asg (R.val 1), trivial⟩ (fun act_ W4 I => ?_)
                rw [I.act [(94, .bool false), (95, .bool true), (8, .bool true)]
                  ⟨I.val 0, I.val 1, I.val 2, trivial⟩ rfl]
                have sW4 : W3.heap.size ≤ W4.heap.size := I.below.size
                replace ow4 := I.keep ow4 trivial
                replace ow5 := I.keep ow5 trivial
                replace ow6 := I.keep ow6 trivial
                replace ow7 := I.keep ow7 trivial
                have hW4 : Bel w.heap.size w W4 := thenB hW3 I.below hW3.size
                clear I
                simp only [List.foldl_cons, List.foldl_nil, List.setIfInBounds_toArray, List.set_cons_zero, List.set_cons_succ]
                clear ow4 ow5 ow6 ow7
                go_wp2
                try simp only [setCell_drawn]
                refine bodyPost_ret (by first | (simp [results, Try.results54, go_sem]; done) | (simp [results, Try.results54, go_sem]; rfl)) rfl ⟨?_, hW4⟩
                refine retb_eq ?_; simp only [rmB, t1_.out, t15_.out, t16_.out, t17_.out, t18_.out, t19_.out, t20_.out]; rfl
end Go.Proofs.Ythakafnecddliaa
