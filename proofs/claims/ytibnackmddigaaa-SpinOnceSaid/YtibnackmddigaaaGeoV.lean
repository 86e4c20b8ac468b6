
/- The contract of Around of geom; written by auto_geom.py. Conditions: those that each theorem names. -/
import Derived.Test.YtibnackmddigaaaGeoC
namespace Go.Proofs.Ytibnackmddigaaa
open Go.ChangeShapes Go.WideShapes Go.ChangeAt Go.RowKit
set_option linter.unusedVariables false
set_option linter.unusedSimpArgs false

def rdV (o1 o2 a1 a2 b1 b2 : Int) : Int := if !(in3 o1 o2 a1 a2 b1 b2) || decide (a1 = o1 ∧ a2 = o2) || decide (b1 = o1 ∧ b2 = o2) then 0 else if !(laB o1 o2 a1 a2) && laB o1 o2 b1 b2 then -1 else if laB o1 o2 a1 a2 && !(laB o1 o2 b1 b2) then 1 else -tn o1 o2 a1 a2 b1 b2
set_option maxHeartbeats 16000000 in
set_option maxRecDepth 20000 in
theorem Around_any {o1 o2 a1 a2 b1 b2 : Int}  (w : World) : Calls Try.prog 74 #[.agg #[.int .i64 o1, .int .i64 o2], .agg #[.int .i64 a1, .int .i64 a2], .agg #[.int .i64 b1, .int .i64 b2]] w fun e w' => e = .returned (.int .i64 (rdV o1 o2 a1 a2 b1 b2)) ∧ Bel w.heap.size w w' := by
  go_enter Try.func74, Try.ntmps74
  go_upto_region 1 with fail
  go_name_world W0 hW0e
  have ow3 : Own W0 w.heap.size 37 #[.int .i64 o1, .int .i64 o2] := hW0e ▸ (by repeat' (first | (with_reducible assumption) | (with_reducible refine Own.drawnN ?_ _) | (with_reducible refine Own.drawn ?_) | (with_reducible refine Own.made_at ?_; first | rfl | (simp; done) | omega | (simp; omega)) | (with_reducible refine Own.more ?_ _) | (with_reducible refine Own.apart ?_ ?_ _ _; rotate_left; first | omega | (simp; done) | (simp; omega)) | (refine Own.put ?_ _ _)))
  have ow4 : Own W0 (w.heap.size + 1) 37 #[.int .i64 a1, .int .i64 a2] := hW0e ▸ (by repeat' (first | (with_reducible assumption) | (with_reducible refine Own.drawnN ?_ _) | (with_reducible refine Own.drawn ?_) | (with_reducible refine Own.made_at ?_; first | rfl | (simp; done) | omega | (simp; omega)) | (with_reducible refine Own.more ?_ _) | (with_reducible refine Own.apart ?_ ?_ _ _; rotate_left; first | omega | (simp; done) | (simp; omega)) | (refine Own.put ?_ _ _)))
  have ow5 : Own W0 (w.heap.size + 1 + 1) 37 #[.int .i64 b1, .int .i64 b2] := hW0e ▸ (by repeat' (first | (with_reducible assumption) | (with_reducible refine Own.drawnN ?_ _) | (with_reducible refine Own.drawn ?_) | (with_reducible refine Own.made_at ?_; first | rfl | (simp; done) | omega | (simp; omega)) | (with_reducible refine Own.more ?_ _) | (with_reducible refine Own.apart ?_ ?_ _ _; rotate_left; first | omega | (simp; done) | (simp; omega)) | (refine Own.put ?_ _ _)))
  have hW0 : Bel w.heap.size w W0 := hW0e ▸ (by repeat' (first | (with_reducible exact Bel.refl _ _) | (with_reducible assumption) | (with_reducible refine bel_drewN ?_ _) | (with_reducible refine Bel.drew ?_) | (with_reducible refine Bel.alloc ?_ ?_ _) | (with_reducible refine Bel.setCell ?_ ?_ _) | (with_reducible refine thenB ?_ (by with_reducible assumption) ?_) | (with_reducible exact Nat.le_refl _) | (with_reducible exact Nat.le_succ _) | (with_reducible exact Nat.le_succ_of_le (by with_reducible assumption)) | omega | (simp; done) | (simp; omega) | (exact Nat.le_succ _) | (exact Nat.le_succ_of_le (by with_reducible assumption))))
  clear hW0e
  have z0 := ow5.in_
  rcases Bool.eq_false_or_eq_true (laB o1 o2 a1 a2) with t1 | t1
  · have t1_ := Lib.hid t1
    clear t1
    rcases Bool.eq_false_or_eq_true (laB o1 o2 b1 b2) with t2 | t2
    · have t2_ := Lib.hid t2
      clear t2
      go_upto_region 1 with fail
      refine region_memo (B := W0.heap.size) (L := .val (.agg #[.int .i64 o1, .int .i64 o2]) :: .val (.agg #[.int .i64 a1, .int .i64 a2]) :: .val (.bool true) :: .val (.agg #[.int .i64 o1, .int .i64 o2]) :: .val (.agg #[.int .i64 b1, .int .i64 b2]) :: .val (.bool true) :: .val (.bool true) :: .val (.bool true) :: []) (by kernel_rfl) (by kernel_rfl) (Nat.le_refl _) ((by exact trivial))
        ⟨fun a w R => ld_P (R.slot 3 rfl) (R.keep ow3.drawn trivial) rfl rfl, fun a w R => ld_P (R.slot 4 rfl) (R.keep ow4.drawn trivial) rfl rfl, fun a w R => cl_tt (enter_at Try.func94) (R.val 0) (R.val 1) (late_is t1_.out _), fun a w R => ld_P (R.slot 3 rfl) (R.keep ow3.drawn trivial) rfl rfl, fun a w R => ld_P (R.slot 5 rfl) (R.keep ow5.drawn trivial) rfl rfl, fun a w R => cl_tt (enter_at Try.func94) (R.val 3) (R.val 4) (late_is t2_.out _), fun a w R => asg (R.val 2), fun a w R => asg (R.val 5), trivial⟩ (fun act_ W1 I => ?_)
      rw [I.act [(9, .agg #[.int .i64 o1, .int .i64 o2]), (10, .agg #[.int .i64 a1, .int .i64 a2]), (11, .bool true), (12, .agg #[.int .i64 o1, .int .i64 o2]), (13, .agg #[.int .i64 b1, .int .i64 b2]), (14, .bool true), (7, .bool true), (8, .bool true)]
        ⟨I.val 0, I.val 1, I.val 2, I.val 3, I.val 4, I.val 5, I.val 6, I.val 7, trivial⟩ rfl]
      have sW1 : W0.heap.size ≤ W1.heap.size := I.below.size
      replace ow3 := I.keep ow3.drawn trivial
      replace ow4 := I.keep ow4.drawn trivial
      replace ow5 := I.keep ow5.drawn trivial
      have hW1 : Bel w.heap.size w W1 := thenB hW0.drew I.below hW0.size
      clear I
      simp only [List.foldl_cons, List.foldl_nil, List.setIfInBounds_toArray, List.set_cons_zero, List.set_cons_succ]
      rcases Bool.eq_false_or_eq_true (in3 o1 o2 a1 a2 b1 b2) with t3 | t3
      · have t3_ := Lib.hid t3
        clear t3
        go_upto_region 2 with fail
        refine region_memo_f (B := W1.heap.size) (L := .val (.agg #[.int .i64 o1, .int .i64 o2]) :: .val (.agg #[.int .i64 a1, .int .i64 a2]) :: .val (.agg #[.int .i64 b1, .int .i64 b2]) :: .new 37 #[.int .i64 o1, .int .i64 o2, .int .i64 a1, .int .i64 a2, .int .i64 b1, .int .i64 b2] (some (3, 3)) :: .val (.bool true) :: .val (.bool false) :: .val (.bool false) :: []) (by kernel_rfl) (Nat.le_refl _) ((by exact trivial))
          ⟨fun a w R => ld_P (R.slot 3 rfl) (R.keep ow3 trivial) rfl rfl, fun a w R => ld_P (R.slot 4 rfl) (R.keep ow4 trivial) rfl rfl, fun a w R => ld_P (R.slot 5 rfl) (R.keep ow5 trivial) rfl rfl, fun a w R => bsP_3 (R.val 0) (R.val 1) (R.val 2), fun a w R => cl_n (enter_at Try.func95) (R.dep 3) (fun g hg => allIn3 t3_.out hg), fun a w R => notb (R.val 4), fun a w R => asg (R.val 5), trivial⟩ (fun act_ W2 I => ?_)
        obtain ⟨gb19, ew19, lw19, ow19⟩ := I.new 3 rfl rfl rfl
        rw [I.act [(16, .agg #[.int .i64 o1, .int .i64 o2]), (17, .agg #[.int .i64 a1, .int .i64 a2]), (18, .agg #[.int .i64 b1, .int .i64 b2]), (19, .slice (some ⟨gb19, 0, none⟩) 3 3), (20, .bool true), (21, .bool false), (15, .bool false)]
          ⟨I.val 0, I.val 1, I.val 2, ew19, I.val 4, I.val 5, I.val 6, trivial⟩ rfl]
        change W1.heap.size ≤ gb19 at lw19
        have sW2 : W1.heap.size ≤ W2.heap.size := I.below.size
        replace ow3 := I.keep ow3 trivial
        replace ow4 := I.keep ow4 trivial
        replace ow5 := I.keep ow5 trivial
        have hW2 : Bel w.heap.size w W2 := thenB hW1 I.below hW1.size
        clear ew19
        clear I
        simp only [List.foldl_cons, List.foldl_nil, List.setIfInBounds_toArray, List.set_cons_zero, List.set_cons_succ]
        rcases Bool.eq_false_or_eq_true (decide (a1 = o1 ∧ a2 = o2)) with t4 | t4
        · have t4_ := Lib.hid t4
          clear t4
          go_upto_region 3 with fail
          refine region_memo_f (B := W2.heap.size) (L := .val (.agg #[.int .i64 a1, .int .i64 a2]) :: .val (.agg #[.int .i64 o1, .int .i64 o2]) :: .val (.bool true) :: .val (.bool true) :: []) (by kernel_rfl) (Nat.le_refl _) ((by exact trivial))
            ⟨fun a w R => ld_P (R.slot 4 rfl) (R.keep ow4 trivial) rfl rfl, fun a w R => ld_P (R.slot 3 rfl) (R.keep ow3 trivial) rfl rfl, fun a w R => (e_eql_P (R.val 0) (R.val 1) ((fun w => (eq_Point _ _ _ _ w).trans (by rw [t4_.out])))), fun a w R => asg (R.val 2), trivial⟩ (fun act_ W3 I => ?_)
          rw [I.act [(22, .agg #[.int .i64 a1, .int .i64 a2]), (23, .agg #[.int .i64 o1, .int .i64 o2]), (24, .bool true), (15, .bool true)]
            ⟨I.val 0, I.val 1, I.val 2, I.val 3, trivial⟩ rfl]
          have sW3 : W2.heap.size ≤ W3.heap.size := I.below.size
          replace ow3 := I.keep ow3 trivial
          replace ow4 := I.keep ow4 trivial
          replace ow5 := I.keep ow5 trivial
          replace ow19 := I.keep ow19 trivial
          have hW3 : Bel w.heap.size w W3 := thenB hW2 I.below hW2.size
          clear I
          simp only [List.foldl_cons, List.foldl_nil, List.setIfInBounds_toArray, List.set_cons_zero, List.set_cons_succ]
          go_upto_region 5 with fail
          refine region_memo_f (B := W3.heap.size) (L := .val (.int .i64 0) :: []) (by kernel_rfl) (Nat.le_refl _) ((by exact trivial))
            ⟨fun a w R => asc, trivial⟩ (fun act_ W4 I => ?_)
          rw [I.act [(6, .int .i64 0)]
            ⟨I.val 0, trivial⟩ rfl]
          have sW4 : W3.heap.size ≤ W4.heap.size := I.below.size
          replace ow3 := I.keep ow3 trivial
          replace ow4 := I.keep ow4 trivial
          replace ow5 := I.keep ow5 trivial
          replace ow19 := I.keep ow19 trivial
          have hW4 : Bel w.heap.size w W4 := thenB hW3 I.below hW3.size
          clear I
          simp only [List.foldl_cons, List.foldl_nil, List.setIfInBounds_toArray, List.set_cons_zero, List.set_cons_succ]
          clear ow3 ow4 ow5 ow19
          go_wp2
          try simp only [setCell_drawn]
          refine bodyPost_ret (by first | (simp [results, Try.results74, go_sem]; done) | (simp [results, Try.results74, go_sem]; rfl)) rfl ⟨?_, hW4⟩
          refine ret_eq ?_; simp only [rdV, t1_.out, t2_.out, t3_.out, t4_.out]; rfl
        · have t4_ := Lib.hid t4
          clear t4
          go_upto_region 3 with fail
          refine region_memo_f (B := W2.heap.size) (L := .val (.agg #[.int .i64 a1, .int .i64 a2]) :: .val (.agg #[.int .i64 o1, .int .i64 o2]) :: .val (.bool false) :: .val (.bool false) :: []) (by kernel_rfl) (Nat.le_refl _) ((by exact trivial))
            ⟨fun a w R => ld_P (R.slot 4 rfl) (R.keep ow4 trivial) rfl rfl, fun a w R => ld_P (R.slot 3 rfl) (R.keep ow3 trivial) rfl rfl, fun a w R => (e_eql_P (R.val 0) (R.val 1) ((fun w => (eq_Point _ _ _ _ w).trans (by rw [t4_.out])))), fun a w R => asg (R.val 2), trivial⟩ (fun act_ W3 I => ?_)
          rw [I.act [(22, .agg #[.int .i64 a1, .int .i64 a2]), (23, .agg #[.int .i64 o1, .int .i64 o2]), (24, .bool false), (15, .bool false)]
            ⟨I.val 0, I.val 1, I.val 2, I.val 3, trivial⟩ rfl]
          have sW3 : W2.heap.size ≤ W3.heap.size := I.below.size
          replace ow3 := I.keep ow3 trivial
          replace ow4 := I.keep ow4 trivial
          replace ow5 := I.keep ow5 trivial
          replace ow19 := I.keep ow19 trivial
          have hW3 : Bel w.heap.size w W3 := thenB hW2 I.below hW2.size
          clear I
          simp only [List.foldl_cons, List.foldl_nil, List.setIfInBounds_toArray, List.set_cons_zero, List.set_cons_succ]
          rcases Bool.eq_false_or_eq_true (decide (b1 = o1 ∧ b2 = o2)) with t5 | t5
          · have t5_ := Lib.hid t5
            clear t5
            go_upto_region 4 with fail
            refine region_memo_f (B := W3.heap.size) (L := .val (.agg #[.int .i64 b1, .int .i64 b2]) :: .val (.agg #[.int .i64 o1, .int .i64 o2]) :: .val (.bool true) :: .val (.bool true) :: []) (by kernel_rfl) (Nat.le_refl _) ((by exact trivial))
              ⟨fun a w R => ld_P (R.slot 5 rfl) (R.keep ow5 trivial) rfl rfl, fun a w R => ld_P (R.slot 3 rfl) (R.keep ow3 trivial) rfl rfl, fun a w R => (e_eql_P (R.val 0) (R.val 1) ((fun w => (eq_Point _ _ _ _ w).trans (by rw [t5_.out])))), fun a w R => asg (R.val 2), trivial⟩ (fun act_ W4 I => ?_)
            rw [I.act [(25, .agg #[.int .i64 b1, .int .i64 b2]), (26, .agg #[.int .i64 o1, .int .i64 o2]), (27, .bool true), (15, .bool true)]
              ⟨I.val 0, I.val 1, I.val 2, I.val 3, trivial⟩ rfl]
            have sW4 : W3.heap.size ≤ W4.heap.size := I.below.size
            replace ow3 := I.keep ow3 trivial
            replace ow4 := I.keep ow4 trivial
            replace ow5 := I.keep ow5 trivial
            replace ow19 := I.keep ow19 trivial
            have hW4 : Bel w.heap.size w W4 := thenB hW3 I.below hW3.size
            clear I
            simp only [List.foldl_cons, List.foldl_nil, List.setIfInBounds_toArray, List.set_cons_zero, List.set_cons_succ]
            go_upto_region 5 with fail
            refine region_memo_f (B := W4.heap.size) (L := .val (.int .i64 0) :: []) (by kernel_rfl) (Nat.le_refl _) ((by exact trivial))
              ⟨fun a w R => asc, trivial⟩ (fun act_ W5 I => ?_)
            rw [I.act [(6, .int .i64 0)]
              ⟨I.val 0, trivial⟩ rfl]
            have sW5 : W4.heap.size ≤ W5.heap.size := I.below.size
            replace ow3 := I.keep ow3 trivial
            replace ow4 := I.keep ow4 trivial
            replace ow5 := I.keep ow5 trivial
            replace ow19 := I.keep ow19 trivial
            have hW5 : Bel w.heap.size w W5 := thenB hW4 I.below hW4.size
            clear I
            simp only [List.foldl_cons, List.foldl_nil, List.setIfInBounds_toArray, List.set_cons_zero, List.set_cons_succ]
            clear ow3 ow4 ow5 ow19
            go_wp2
            try simp only [setCell_drawn]
            refine bodyPost_ret (by first | (simp [results, Try.results74, go_sem]; done) | (simp [results, Try.results74, go_sem]; rfl)) rfl ⟨?_, hW5⟩
            refine ret_eq ?_; simp only [rdV, t1_.out, t2_.out, t3_.out, t4_.out, t5_.out]; rfl
          · have t5_ := Lib.hid t5
            clear t5
            go_upto_region 4 with fail
            refine region_memo_f (B := W3.heap.size) (L := .val (.agg #[.int .i64 b1, .int .i64 b2]) :: .val (.agg #[.int .i64 o1, .int .i64 o2]) :: .val (.bool false) :: .val (.bool false) :: []) (by kernel_rfl) (Nat.le_refl _) ((by exact trivial))
              ⟨fun a w R => ld_P (R.slot 5 rfl) (R.keep ow5 trivial) rfl rfl, fun a w R => ld_P (R.slot 3 rfl) (R.keep ow3 trivial) rfl rfl, fun a w R => (e_eql_P (R.val 0) (R.val 1) ((fun w => (eq_Point _ _ _ _ w).trans (by rw [t5_.out])))), fun a w R => asg (R.val 2), trivial⟩ (fun act_ W4 I => ?_)
            rw [I.act [(25, .agg #[.int .i64 b1, .int .i64 b2]), (26, .agg #[.int .i64 o1, .int .i64 o2]), (27, .bool false), (15, .bool false)]
              ⟨I.val 0, I.val 1, I.val 2, I.val 3, trivial⟩ rfl]
            have sW4 : W3.heap.size ≤ W4.heap.size := I.below.size
            replace ow3 := I.keep ow3 trivial
            replace ow4 := I.keep ow4 trivial
            replace ow5 := I.keep ow5 trivial
            replace ow19 := I.keep ow19 trivial
            have hW4 : Bel w.heap.size w W4 := thenB hW3 I.below hW3.size
            clear I
            simp only [List.foldl_cons, List.foldl_nil, List.setIfInBounds_toArray, List.set_cons_zero, List.set_cons_succ]
            go_upto_region 6 with fail
            refine region_memo_f (B := W4.heap.size) (L := .val (.bool true) :: .val (.bool false) :: .val (.bool false) :: .skip :: .val (.bool false) :: .val (.bool false) :: []) (by kernel_rfl) (Nat.le_refl _) ((by exact trivial))
              ⟨fun a w R => mv (R.slot 7 rfl), fun a w R => notb (R.val 0), fun a w R => mv (R.val 1), fun a w R => True.intro, fun a w R => pickf (R.val 2) (R.goneS 3), fun a w R => asg (R.val 4), trivial⟩ (fun act_ W5 I => ?_)
            rw [I.act [(29, .bool true), (30, .bool false), (31, .bool false), (32, undef), (33, .bool false), (28, .bool false)]
              ⟨I.val 0, I.val 1, I.val 2, I.gone 3, I.val 4, I.val 5, trivial⟩ rfl]
            have sW5 : W4.heap.size ≤ W5.heap.size := I.below.size
            replace ow3 := I.keep ow3 trivial
            replace ow4 := I.keep ow4 trivial
            replace ow5 := I.keep ow5 trivial
            replace ow19 := I.keep ow19 trivial
            have hW5 : Bel w.heap.size w W5 := thenB hW4 I.below hW4.size
            clear I
            simp only [List.foldl_cons, List.foldl_nil, List.setIfInBounds_toArray, List.set_cons_zero, List.set_cons_succ]
            go_upto_region 8 with fail
            refine region_memo_f (B := W5.heap.size) (L := .val (.bool true) :: .val (.bool true) :: .val (.bool true) :: .val (.bool false) :: .val (.bool false) :: .val (.bool false) :: []) (by kernel_rfl) (Nat.le_refl _) ((by exact trivial))
              ⟨fun a w R => mv (R.slot 7 rfl), fun a w R => mv (R.val 0), fun a w R => mv (R.slot 8 rfl), fun a w R => notb (R.val 2), fun a w R => pickt (R.val 1) (R.val 3), fun a w R => asg (R.val 4), trivial⟩ (fun act_ W6 I => ?_)
            rw [I.act [(35, .bool true), (36, .bool true), (37, .bool true), (38, .bool false), (39, .bool false), (34, .bool false)]
              ⟨I.val 0, I.val 1, I.val 2, I.val 3, I.val 4, I.val 5, trivial⟩ rfl]
            have sW6 : W5.heap.size ≤ W6.heap.size := I.below.size
            replace ow3 := I.keep ow3 trivial
            replace ow4 := I.keep ow4 trivial
            replace ow5 := I.keep ow5 trivial
            replace ow19 := I.keep ow19 trivial
            have hW6 : Bel w.heap.size w W6 := thenB hW5 I.below hW5.size
            clear I
            simp only [List.foldl_cons, List.foldl_nil, List.setIfInBounds_toArray, List.set_cons_zero, List.set_cons_succ]
            go_upto_region 10 with fail
            refine region_memo_f (B := W6.heap.size) (L := .val (.agg #[.int .i64 o1, .int .i64 o2]) :: .val (.agg #[.int .i64 a1, .int .i64 a2]) :: .val (.agg #[.int .i64 b1, .int .i64 b2]) :: .val (.int .i64 (tn o1 o2 a1 a2 b1 b2)) :: .val (.int .i64 (-(tn o1 o2 a1 a2 b1 b2))) :: .val (.int .i64 (-(tn o1 o2 a1 a2 b1 b2))) :: []) (by kernel_rfl) (Nat.le_refl _) ((by exact trivial))
              ⟨fun a w R => ld_P (R.slot 3 rfl) (R.keep ow3 trivial) rfl rfl, fun a w R => ld_P (R.slot 4 rfl) (R.keep ow4 trivial) rfl rfl, fun a w R => ld_P (R.slot 5 rfl) (R.keep ow5 trivial) rfl rfl, fun a w R => cl_ttt (enter_at Try.func96) (R.val 0) (R.val 1) (R.val 2) (Turn_in (in3_iff.2 ⟨(in3_iff.1 t3_.out).1, (in3_iff.1 t3_.out).2.1, (in3_iff.1 t3_.out).2.2⟩) _), fun a w R => negi (R.val 3) (by first | rfl | exact tn_wrap _ _ | exact tn_negw _ | (simp only [IntKind.wrap_i64]; omega)), fun a w R => asg (R.val 4), trivial⟩ (fun act_ W7 I => ?_)
            rw [I.act [(40, .agg #[.int .i64 o1, .int .i64 o2]), (41, .agg #[.int .i64 a1, .int .i64 a2]), (42, .agg #[.int .i64 b1, .int .i64 b2]), (43, .int .i64 (tn o1 o2 a1 a2 b1 b2)), (44, .int .i64 (-(tn o1 o2 a1 a2 b1 b2))), (6, .int .i64 (-(tn o1 o2 a1 a2 b1 b2)))]
              ⟨I.val 0, I.val 1, I.val 2, I.val 3, I.val 4, I.val 5, trivial⟩ rfl]
            have sW7 : W6.heap.size ≤ W7.heap.size := I.below.size
            replace ow3 := I.keep ow3 trivial
            replace ow4 := I.keep ow4 trivial
            replace ow5 := I.keep ow5 trivial
            replace ow19 := I.keep ow19 trivial
            have hW7 : Bel w.heap.size w W7 := thenB hW6 I.below hW6.size
            clear I
            simp only [List.foldl_cons, List.foldl_nil, List.setIfInBounds_toArray, List.set_cons_zero, List.set_cons_succ]
            clear ow3 ow4 ow5 ow19
            go_wp2
            try simp only [setCell_drawn]
            refine bodyPost_ret (by first | (simp [results, Try.results74, go_sem]; done) | (simp [results, Try.results74, go_sem]; rfl)) rfl ⟨?_, hW7⟩
            refine ret_eq ?_; simp only [rdV, t1_.out, t2_.out, t3_.out, t4_.out, t5_.out]; rfl
      · have t3_ := Lib.hid t3
        clear t3
        go_upto_region 2 with fail
        refine region_memo_f (B := W1.heap.size) (L := .val (.agg #[.int .i64 o1, .int .i64 o2]) :: .val (.agg #[.int .i64 a1, .int .i64 a2]) :: .val (.agg #[.int .i64 b1, .int .i64 b2]) :: .new 37 #[.int .i64 o1, .int .i64 o2, .int .i64 a1, .int .i64 a2, .int .i64 b1, .int .i64 b2] (some (3, 3)) :: .val (.bool false) :: .val (.bool true) :: .val (.bool true) :: []) (by kernel_rfl) (Nat.le_refl _) ((by exact trivial))
          ⟨fun a w R => ld_P (R.slot 3 rfl) (R.keep ow3 trivial) rfl rfl, fun a w R => ld_P (R.slot 4 rfl) (R.keep ow4 trivial) rfl rfl, fun a w R => ld_P (R.slot 5 rfl) (R.keep ow5 trivial) rfl rfl, fun a w R => bsP_3 (R.val 0) (R.val 1) (R.val 2), fun a w R => cl_n (enter_at Try.func95) (R.dep 3) (fun g hg => allIn3 t3_.out hg), fun a w R => notb (R.val 4), fun a w R => asg (R.val 5), trivial⟩ (fun act_ W2 I => ?_)
        obtain ⟨gb19, ew19, lw19, ow19⟩ := I.new 3 rfl rfl rfl
        rw [I.act [(16, .agg #[.int .i64 o1, .int .i64 o2]), (17, .agg #[.int .i64 a1, .int .i64 a2]), (18, .agg #[.int .i64 b1, .int .i64 b2]), (19, .slice (some ⟨gb19, 0, none⟩) 3 3), (20, .bool false), (21, .bool true), (15, .bool true)]
          ⟨I.val 0, I.val 1, I.val 2, ew19, I.val 4, I.val 5, I.val 6, trivial⟩ rfl]
        change W1.heap.size ≤ gb19 at lw19
        have sW2 : W1.heap.size ≤ W2.heap.size := I.below.size
        replace ow3 := I.keep ow3 trivial
        replace ow4 := I.keep ow4 trivial
        replace ow5 := I.keep ow5 trivial
        have hW2 : Bel w.heap.size w W2 := thenB hW1 I.below hW1.size
        clear ew19
        clear I
        simp only [List.foldl_cons, List.foldl_nil, List.setIfInBounds_toArray, List.set_cons_zero, List.set_cons_succ]
        go_upto_region 5 with fail
        refine region_memo_f (B := W2.heap.size) (L := .val (.int .i64 0) :: []) (by kernel_rfl) (Nat.le_refl _) ((by exact trivial))
          ⟨fun a w R => asc, trivial⟩ (fun act_ W3 I => ?_)
        rw [I.act [(6, .int .i64 0)]
          ⟨I.val 0, trivial⟩ rfl]
        have sW3 : W2.heap.size ≤ W3.heap.size := I.below.size
        replace ow3 := I.keep ow3 trivial
        replace ow4 := I.keep ow4 trivial
        replace ow5 := I.keep ow5 trivial
        replace ow19 := I.keep ow19 trivial
        have hW3 : Bel w.heap.size w W3 := thenB hW2 I.below hW2.size
        clear I
        simp only [List.foldl_cons, List.foldl_nil, List.setIfInBounds_toArray, List.set_cons_zero, List.set_cons_succ]
        clear ow3 ow4 ow5 ow19
        go_wp2
        try simp only [setCell_drawn]
        refine bodyPost_ret (by first | (simp [results, Try.results74, go_sem]; done) | (simp [results, Try.results74, go_sem]; rfl)) rfl ⟨?_, hW3⟩
        refine ret_eq ?_; simp only [rdV, t1_.out, t2_.out, t3_.out]; rfl
    · have t2_ := Lib.hid t2
      clear t2
      go_upto_region 1 with fail
      refine region_memo (B := W0.heap.size) (L := .val (.agg #[.int .i64 o1, .int .i64 o2]) :: .val (.agg #[.int .i64 a1, .int .i64 a2]) :: .val (.bool true) :: .val (.agg #[.int .i64 o1, .int .i64 o2]) :: .val (.agg #[.int .i64 b1, .int .i64 b2]) :: .val (.bool false) :: .val (.bool true) :: .val (.bool false) :: []) (by kernel_rfl) (by kernel_rfl) (Nat.le_refl _) ((by exact trivial))
        ⟨fun a w R => ld_P (R.slot 3 rfl) (R.keep ow3.drawn trivial) rfl rfl, fun a w R => ld_P (R.slot 4 rfl) (R.keep ow4.drawn trivial) rfl rfl, fun a w R => cl_tt (enter_at Try.func94) (R.val 0) (R.val 1) (late_is t1_.out _), fun a w R => ld_P (R.slot 3 rfl) (R.keep ow3.drawn trivial) rfl rfl, fun a w R => ld_P (R.slot 5 rfl) (R.keep ow5.drawn trivial) rfl rfl, fun a w R => cl_tt (enter_at Try.func94) (R.val 3) (R.val 4) (late_is t2_.out _), fun a w R => asg (R.val 2), fun a w R => asg (R.val 5), trivial⟩ (fun act_ W1 I => ?_)
      rw [I.act [(9, .agg #[.int .i64 o1, .int .i64 o2]), (10, .agg #[.int .i64 a1, .int .i64 a2]), (11, .bool true), (12, .agg #[.int .i64 o1, .int .i64 o2]), (13, .agg #[.int .i64 b1, .int .i64 b2]), (14, .bool false), (7, .bool true), (8, .bool false)]
        ⟨I.val 0, I.val 1, I.val 2, I.val 3, I.val 4, I.val 5, I.val 6, I.val 7, trivial⟩ rfl]
      have sW1 : W0.heap.size ≤ W1.heap.size := I.below.size
      replace ow3 := I.keep ow3.drawn trivial
      replace ow4 := I.keep ow4.drawn trivial
      replace ow5 := I.keep ow5.drawn trivial
      have hW1 : Bel w.heap.size w W1 := thenB hW0.drew I.below hW0.size
      clear I
      simp only [List.foldl_cons, List.foldl_nil, List.setIfInBounds_toArray, List.set_cons_zero, List.set_cons_succ]
      rcases Bool.eq_false_or_eq_true (in3 o1 o2 a1 a2 b1 b2) with t6 | t6
      · have t6_ := Lib.hid t6
        clear t6
        go_upto_region 2 with fail
        refine region_memo_f (B := W1.heap.size) (L := .val (.agg #[.int .i64 o1, .int .i64 o2]) :: .val (.agg #[.int .i64 a1, .int .i64 a2]) :: .val (.agg #[.int .i64 b1, .int .i64 b2]) :: .new 37 #[.int .i64 o1, .int .i64 o2, .int .i64 a1, .int .i64 a2, .int .i64 b1, .int .i64 b2] (some (3, 3)) :: .val (.bool true) :: .val (.bool false) :: .val (.bool false) :: []) (by kernel_rfl) (Nat.le_refl _) ((by exact trivial))
          ⟨fun a w R => ld_P (R.slot 3 rfl) (R.keep ow3 trivial) rfl rfl, fun a w R => ld_P (R.slot 4 rfl) (R.keep ow4 trivial) rfl rfl, fun a w R => ld_P (R.slot 5 rfl) (R.keep ow5 trivial) rfl rfl, fun a w R => bsP_3 (R.val 0) (R.val 1) (R.val 2), fun a w R => cl_n (enter_at Try.func95) (R.dep 3) (fun g hg => allIn3 t6_.out hg), fun a w R => notb (R.val 4), fun a w R => asg (R.val 5), trivial⟩ (fun act_ W2 I => ?_)
        obtain ⟨gb19, ew19, lw19, ow19⟩ := I.new 3 rfl rfl rfl
        rw [I.act [(16, .agg #[.int .i64 o1, .int .i64 o2]), (17, .agg #[.int .i64 a1, .int .i64 a2]), (18, .agg #[.int .i64 b1, .int .i64 b2]), (19, .slice (some ⟨gb19, 0, none⟩) 3 3), (20, .bool true), (21, .bool false), (15, .bool false)]
          ⟨I.val 0, I.val 1, I.val 2, ew19, I.val 4, I.val 5, I.val 6, trivial⟩ rfl]
        change W1.heap.size ≤ gb19 at lw19
        have sW2 : W1.heap.size ≤ W2.heap.size := I.below.size
        replace ow3 := I.keep ow3 trivial
        replace ow4 := I.keep ow4 trivial
        replace ow5 := I.keep ow5 trivial
        have hW2 : Bel w.heap.size w W2 := thenB hW1 I.below hW1.size
        clear ew19
        clear I
        simp only [List.foldl_cons, List.foldl_nil, List.setIfInBounds_toArray, List.set_cons_zero, List.set_cons_succ]
        rcases Bool.eq_false_or_eq_true (decide (a1 = o1 ∧ a2 = o2)) with t7 | t7
        · have t7_ := Lib.hid t7
          clear t7
          go_upto_region 3 with fail
          refine region_memo_f (B := W2.heap.size) (L := .val (.agg #[.int .i64 a1, .int .i64 a2]) :: .val (.agg #[.int .i64 o1, .int .i64 o2]) :: .val (.bool true) :: .val (.bool true) :: []) (by kernel_rfl) (Nat.le_refl _) ((by exact trivial))
            ⟨fun a w R => ld_P (R.slot 4 rfl) (R.keep ow4 trivial) rfl rfl, fun a w R => ld_P (R.slot 3 rfl) (R.keep ow3 trivial) rfl rfl, fun a w R => (e_eql_P (R.val 0) (R.val 1) ((fun w => (eq_Point _ _ _ _ w).trans (by rw [t7_.out])))), fun a w R => asg (R.val 2), trivial⟩ (fun act_ W3 I => ?_)
          rw [I.act [(22, .agg #[.int .i64 a1, .int .i64 a2]), (23, .agg #[.int .i64 o1, .int .i64 o2]), (24, .bool true), (15, .bool true)]
            ⟨I.val 0, I.val 1, I.val 2, I.val 3, trivial⟩ rfl]
          have sW3 : W2.heap.size ≤ W3.heap.size := I.below.size
          replace ow3 := I.keep ow3 trivial
          replace ow4 := I.keep ow4 trivial
          replace ow5 := I.keep ow5 trivial
          replace ow19 := I.keep ow19 trivial
          have hW3 : Bel w.heap.size w W3 := thenB hW2 I.below hW2.size
          clear I
          simp only [List.foldl_cons, List.foldl_nil, List.setIfInBounds_toArray, List.set_cons_zero, List.set_cons_succ]
          go_upto_region 5 with fail
          refine region_memo_f (B := W3.heap.size) (L := .val (.int .i64 0) :: []) (by kernel_rfl) (Nat.le_refl _) ((by exact trivial))
            ⟨fun a w R => asc, trivial⟩ (fun act_ W4 I => ?_)
          rw [I.act [(6, .int .i64 0)]
            ⟨I.val 0, trivial⟩ rfl]
          have sW4 : W3.heap.size ≤ W4.heap.size := I.below.size
          replace ow3 := I.keep ow3 trivial
          replace ow4 := I.keep ow4 trivial
          replace ow5 := I.keep ow5 trivial
          replace ow19 := I.keep ow19 trivial
          have hW4 : Bel w.heap.size w W4 := thenB hW3 I.below hW3.size
          clear I
          simp only [List.foldl_cons, List.foldl_nil, List.setIfInBounds_toArray, List.set_cons_zero, List.set_cons_succ]
          clear ow3 ow4 ow5 ow19
          go_wp2
          try simp only [setCell_drawn]
          refine bodyPost_ret (by first | (simp [results, Try.results74, go_sem]; done) | (simp [results, Try.results74, go_sem]; rfl)) rfl ⟨?_, hW4⟩
          refine ret_eq ?_; simp only [rdV, t1_.out, t2_.out, t6_.out, t7_.out]; rfl
        · have t7_ := Lib.hid t7
          clear t7
          go_upto_region 3 with fail
          refine region_memo_f (B := W2.heap.size) (L := .val (.agg #[.int .i64 a1, .int .i64 a2]) :: .val (.agg #[.int .i64 o1, .int .i64 o2]) :: .val (.bool false) :: .val (.bool false) :: []) (by kernel_rfl) (Nat.le_refl _) ((by exact trivial))
            ⟨fun a w R => ld_P (R.slot 4 rfl) (R.keep ow4 trivial) rfl rfl, fun a w R => ld_P (R.slot 3 rfl) (R.keep ow3 trivial) rfl rfl, fun a w R => (e_eql_P (R.val 0) (R.val 1) ((fun w => (eq_Point _ _ _ _ w).trans (by rw [t7_.out])))), fun a w R => asg (R.val 2), trivial⟩ (fun act_ W3 I => ?_)
          rw [I.act [(22, .agg #[.int .i64 a1, .int .i64 a2]), (23, .agg #[.int .i64 o1, .int .i64 o2]), (24, .bool false), (15, .bool false)]
            ⟨I.val 0, I.val 1, I.val 2, I.val 3, trivial⟩ rfl]
          have sW3 : W2.heap.size ≤ W3.heap.size := I.below.size
          replace ow3 := I.keep ow3 trivial
          replace ow4 := I.keep ow4 trivial
          replace ow5 := I.keep ow5 trivial
          replace ow19 := I.keep ow19 trivial
          have hW3 : Bel w.heap.size w W3 := thenB hW2 I.below hW2.size
          clear I
          simp only [List.foldl_cons, List.foldl_nil, List.setIfInBounds_toArray, List.set_cons_zero, List.set_cons_succ]
          rcases Bool.eq_false_or_eq_true (decide (b1 = o1 ∧ b2 = o2)) with t8 | t8
          · have t8_ := Lib.hid t8
            clear t8
            go_upto_region 4 with fail
            refine region_memo_f (B := W3.heap.size) (L := .val (.agg #[.int .i64 b1, .int .i64 b2]) :: .val (.agg #[.int .i64 o1, .int .i64 o2]) :: .val (.bool true) :: .val (.bool true) :: []) (by kernel_rfl) (Nat.le_refl _) ((by exact trivial))
              ⟨fun a w R => ld_P (R.slot 5 rfl) (R.keep ow5 trivial) rfl rfl, fun a w R => ld_P (R.slot 3 rfl) (R.keep ow3 trivial) rfl rfl, fun a w R => (e_eql_P (R.val 0) (R.val 1) ((fun w => (eq_Point _ _ _ _ w).trans (by rw [t8_.out])))), fun a w R => asg (R.val 2), trivial⟩ (fun act_ W4 I => ?_)
            rw [I.act [(25, .agg #[.int .i64 b1, .int .i64 b2]), (26, .agg #[.int .i64 o1, .int .i64 o2]), (27, .bool true), (15, .bool true)]
              ⟨I.val 0, I.val 1, I.val 2, I.val 3, trivial⟩ rfl]
            have sW4 : W3.heap.size ≤ W4.heap.size := I.below.size
            replace ow3 := I.keep ow3 trivial
            replace ow4 := I.keep ow4 trivial
            replace ow5 := I.keep ow5 trivial
            replace ow19 := I.keep ow19 trivial
            have hW4 : Bel w.heap.size w W4 := thenB hW3 I.below hW3.size
            clear I
            simp only [List.foldl_cons, List.foldl_nil, List.setIfInBounds_toArray, List.set_cons_zero, List.set_cons_succ]
            go_upto_region 5 with fail
            refine region_memo_f (B := W4.heap.size) (L := .val (.int .i64 0) :: []) (by kernel_rfl) (Nat.le_refl _) ((by exact trivial))
              ⟨fun a w R => asc, trivial⟩ (fun act_ W5 I => ?_)
            rw [I.act [(6, .int .i64 0)]
              ⟨I.val 0, trivial⟩ rfl]
            have sW5 : W4.heap.size ≤ W5.heap.size := I.below.size
            replace ow3 := I.keep ow3 trivial
            replace ow4 := I.keep ow4 trivial
            replace ow5 := I.keep ow5 trivial
            replace ow19 := I.keep ow19 trivial
            have hW5 : Bel w.heap.size w W5 := thenB hW4 I.below hW4.size
            clear I
            simp only [List.foldl_cons, List.foldl_nil, List.setIfInBounds_toArray, List.set_cons_zero, List.set_cons_succ]
            clear ow3 ow4 ow5 ow19
            go_wp2
            try simp only [setCell_drawn]
            refine bodyPost_ret (by first | (simp [results, Try.results74, go_sem]; done) | (simp [results, Try.results74, go_sem]; rfl)) rfl ⟨?_, hW5⟩
            refine ret_eq ?_; simp only [rdV, t1_.out, t2_.out, t6_.out, t7_.out, t8_.out]; rfl
          · have t8_ := Lib.hid t8
            clear t8
            go_upto_region 4 with fail
            refine region_memo_f (B := W3.heap.size) (L := .val (.agg #[.int .i64 b1, .int .i64 b2]) :: .val (.agg #[.int .i64 o1, .int .i64 o2]) :: .val (.bool false) :: .val (.bool false) :: []) (by kernel_rfl) (Nat.le_refl _) ((by exact trivial))
              ⟨fun a w R => ld_P (R.slot 5 rfl) (R.keep ow5 trivial) rfl rfl, fun a w R => ld_P (R.slot 3 rfl) (R.keep ow3 trivial) rfl rfl, fun a w R => (e_eql_P (R.val 0) (R.val 1) ((fun w => (eq_Point _ _ _ _ w).trans (by rw [t8_.out])))), fun a w R => asg (R.val 2), trivial⟩ (fun act_ W4 I => ?_)
            rw [I.act [(25, .agg #[.int .i64 b1, .int .i64 b2]), (26, .agg #[.int .i64 o1, .int .i64 o2]), (27, .bool false), (15, .bool false)]
              ⟨I.val 0, I.val 1, I.val 2, I.val 3, trivial⟩ rfl]
            have sW4 : W3.heap.size ≤ W4.heap.size := I.below.size
            replace ow3 := I.keep ow3 trivial
            replace ow4 := I.keep ow4 trivial
            replace ow5 := I.keep ow5 trivial
            replace ow19 := I.keep ow19 trivial
            have hW4 : Bel w.heap.size w W4 := thenB hW3 I.below hW3.size
            clear I
            simp only [List.foldl_cons, List.foldl_nil, List.setIfInBounds_toArray, List.set_cons_zero, List.set_cons_succ]
            go_upto_region 6 with fail
            refine region_memo_f (B := W4.heap.size) (L := .val (.bool true) :: .val (.bool false) :: .val (.bool false) :: .skip :: .val (.bool false) :: .val (.bool false) :: []) (by kernel_rfl) (Nat.le_refl _) ((by exact trivial))
              ⟨fun a w R => mv (R.slot 7 rfl), fun a w R => notb (R.val 0), fun a w R => mv (R.val 1), fun a w R => True.intro, fun a w R => pickf (R.val 2) (R.goneS 3), fun a w R => asg (R.val 4), trivial⟩ (fun act_ W5 I => ?_)
            rw [I.act [(29, .bool true), (30, .bool false), (31, .bool false), (32, undef), (33, .bool false), (28, .bool false)]
              ⟨I.val 0, I.val 1, I.val 2, I.gone 3, I.val 4, I.val 5, trivial⟩ rfl]
            have sW5 : W4.heap.size ≤ W5.heap.size := I.below.size
            replace ow3 := I.keep ow3 trivial
            replace ow4 := I.keep ow4 trivial
            replace ow5 := I.keep ow5 trivial
            replace ow19 := I.keep ow19 trivial
            have hW5 : Bel w.heap.size w W5 := thenB hW4 I.below hW4.size
            clear I
            simp only [List.foldl_cons, List.foldl_nil, List.setIfInBounds_toArray, List.set_cons_zero, List.set_cons_succ]
            go_upto_region 8 with fail
            refine region_memo_f (B := W5.heap.size) (L := .val (.bool true) :: .val (.bool true) :: .val (.bool false) :: .val (.bool true) :: .val (.bool true) :: .val (.bool true) :: []) (by kernel_rfl) (Nat.le_refl _) ((by exact trivial))
              ⟨fun a w R => mv (R.slot 7 rfl), fun a w R => mv (R.val 0), fun a w R => mv (R.slot 8 rfl), fun a w R => notb (R.val 2), fun a w R => pickt (R.val 1) (R.val 3), fun a w R => asg (R.val 4), trivial⟩ (fun act_ W6 I => ?_)
            rw [I.act [(35, .bool true), (36, .bool true), (37, .bool false), (38, .bool true), (39, .bool true), (34, .bool true)]
              ⟨I.val 0, I.val 1, I.val 2, I.val 3, I.val 4, I.val 5, trivial⟩ rfl]
            have sW6 : W5.heap.size ≤ W6.heap.size := I.below.size
            replace ow3 := I.keep ow3 trivial
            replace ow4 := I.keep ow4 trivial
            replace ow5 := I.keep ow5 trivial
            replace ow19 := I.keep ow19 trivial
            have hW6 : Bel w.heap.size w W6 := thenB hW5 I.below hW5.size
            clear I
            simp only [List.foldl_cons, List.foldl_nil, List.setIfInBounds_toArray, List.set_cons_zero, List.set_cons_succ]
            go_upto_region 9 with fail
            refine region_memo_f (B := W6.heap.size) (L := .val (.int .i64 1) :: []) (by kernel_rfl) (Nat.le_refl _) ((by exact trivial))
              ⟨fun a w R => asc, trivial⟩ (fun act_ W7 I => ?_)
            rw [I.act [(6, .int .i64 1)]
              ⟨I.val 0, trivial⟩ rfl]
            have sW7 : W6.heap.size ≤ W7.heap.size := I.below.size
            replace ow3 := I.keep ow3 trivial
            replace ow4 := I.keep ow4 trivial
            replace ow5 := I.keep ow5 trivial
            replace ow19 := I.keep ow19 trivial
            have hW7 : Bel w.heap.size w W7 := thenB hW6 I.below hW6.size
            clear I
            simp only [List.foldl_cons, List.foldl_nil, List.setIfInBounds_toArray, List.set_cons_zero, List.set_cons_succ]
            clear ow3 ow4 ow5 ow19
            go_wp2
            try simp only [setCell_drawn]
            refine bodyPost_ret (by first | (simp [results, Try.results74, go_sem]; done) | (simp [results, Try.results74, go_sem]; rfl)) rfl ⟨?_, hW7⟩
            refine ret_eq ?_; simp only [rdV, t1_.out, t2_.out, t6_.out, t7_.out, t8_.out]; rfl
      · have t6_ := Lib.hid t6
        clear t6
        go_upto_region 2 with fail
        refine region_memo_f (B := W1.heap.size) (L := .val (.agg #[.int .i64 o1, .int .i64 o2]) :: .val (.agg #[.int .i64 a1, .int .i64 a2]) :: .val (.agg #[.int .i64 b1, .int .i64 b2]) :: .new 37 #[.int .i64 o1, .int .i64 o2, .int .i64 a1, .int .i64 a2, .int .i64 b1, .int .i64 b2] (some (3, 3)) :: .val (.bool false) :: .val (.bool true) :: .val (.bool true) :: []) (by kernel_rfl) (Nat.le_refl _) ((by exact trivial))
          ⟨fun a w R => ld_P (R.slot 3 rfl) (R.keep ow3 trivial) rfl rfl, fun a w R => ld_P (R.slot 4 rfl) (R.keep ow4 trivial) rfl rfl, fun a w R => ld_P (R.slot 5 rfl) (R.keep ow5 trivial) rfl rfl, fun a w R => bsP_3 (R.val 0) (R.val 1) (R.val 2), fun a w R => cl_n (enter_at Try.func95) (R.dep 3) (fun g hg => allIn3 t6_.out hg), fun a w R => notb (R.val 4), fun a w R => asg (R.val 5), trivial⟩ (fun act_ W2 I => ?_)
        obtain ⟨gb19, ew19, lw19, ow19⟩ := I.new 3 rfl rfl rfl
        rw [I.act [(16, .agg #[.int .i64 o1, .int .i64 o2]), (17, .agg #[.int .i64 a1, .int .i64 a2]), (18, .agg #[.int .i64 b1, .int .i64 b2]), (19, .slice (some ⟨gb19, 0, none⟩) 3 3), (20, .bool false), (21, .bool true), (15, .bool true)]
          ⟨I.val 0, I.val 1, I.val 2, ew19, I.val 4, I.val 5, I.val 6, trivial⟩ rfl]
        change W1.heap.size ≤ gb19 at lw19
        have sW2 : W1.heap.size ≤ W2.heap.size := I.below.size
        replace ow3 := I.keep ow3 trivial
        replace ow4 := I.keep ow4 trivial
        replace ow5 := I.keep ow5 trivial
        have hW2 : Bel w.heap.size w W2 := thenB hW1 I.below hW1.size
        clear ew19
        clear I
        simp only [List.foldl_cons, List.foldl_nil, List.setIfInBounds_toArray, List.set_cons_zero, List.set_cons_succ]
        go_upto_region 5 with fail
        refine region_memo_f (B := W2.heap.size) (L := .val (.int .i64 0) :: []) (by kernel_rfl) (Nat.le_refl _) ((by exact trivial))
          ⟨fun a w R => asc, trivial⟩ (fun act_ W3 I => ?_)
        rw [I.act [(6, .int .i64 0)]
          ⟨I.val 0, trivial⟩ rfl]
        have sW3 : W2.heap.size ≤ W3.heap.size := I.below.size
        replace ow3 := I.keep ow3 trivial
        replace ow4 := I.keep ow4 trivial
        replace ow5 := I.keep ow5 trivial
        replace ow19 := I.keep ow19 trivial
        have hW3 : Bel w.heap.size w W3 := thenB hW2 I.below hW2.size
        clear I
        simp only [List.foldl_cons, List.foldl_nil, List.setIfInBounds_toArray, List.set_cons_zero, List.set_cons_succ]
        clear ow3 ow4 ow5 ow19
        go_wp2
        try simp only [setCell_drawn]
        refine bodyPost_ret (by first | (simp [results, Try.results74, go_sem]; done) | (simp [results, Try.results74, go_sem]; rfl)) rfl ⟨?_, hW3⟩
        refine ret_eq ?_; simp only [rdV, t1_.out, t2_.out, t6_.out]; rfl
  · have t1_ := Lib.hid t1
    clear t1
    rcases Bool.eq_false_or_eq_true (laB o1 o2 b1 b2) with t9 | t9
    · have t9_ := Lib.hid t9
      clear t9
      go_upto_region 1 with fail
      refine region_memo (B := W0.heap.size) (L := .val (.agg #[.int .i64 o1, .int .i64 o2]) :: .val (.agg #[.int .i64 a1, .int .i64 a2]) :: .val (.bool false) :: .val (.agg #[.int .i64 o1, .int .i64 o2]) :: .val (.agg #[.int .i64 b1, .int .i64 b2]) :: .val (.bool true) :: .val (.bool false) :: .val (.bool true) :: []) (by kernel_rfl) (by kernel_rfl) (Nat.le_refl _) ((by exact trivial))
        ⟨fun a w R => ld_P (R.slot 3 rfl) (R.keep ow3.drawn trivial) rfl rfl, fun a w R => ld_P (R.slot 4 rfl) (R.keep ow4.drawn trivial) rfl rfl, fun a w R => cl_tt (enter_at Try.func94) (R.val 0) (R.val 1) (late_is t1_.out _), fun a w R => ld_P (R.slot 3 rfl) (R.keep ow3.drawn trivial) rfl rfl, fun a w R => ld_P (R.slot 5 rfl) (R.keep ow5.drawn trivial) rfl rfl, fun a w R => cl_tt (enter_at Try.func94) (R.val 3) (R.val 4) (late_is t9_.out _), fun a w R => asg (R.val 2), fun a w R => asg (R.val 5), trivial⟩ (fun act_ W1 I => ?_)
      rw [I.act [(9, .agg #[.int .i64 o1, .int .i64 o2]), (10, .agg #[.int .i64 a1, .int .i64 a2]), (11, .bool false), (12, .agg #[.int .i64 o1, .int .i64 o2]), (13, .agg #[.int .i64 b1, .int .i64 b2]), (14, .bool true), (7, .bool false), (8, .bool true)]
        ⟨I.val 0, I.val 1, I.val 2, I.val 3, I.val 4, I.val 5, I.val 6, I.val 7, trivial⟩ rfl]
      have sW1 : W0.heap.size ≤ W1.heap.size := I.below.size
      replace ow3 := I.keep ow3.drawn trivial
      replace ow4 := I.keep ow4.drawn trivial
      replace ow5 := I.keep ow5.drawn trivial
      have hW1 : Bel w.heap.size w W1 := thenB hW0.drew I.below hW0.size
      clear I
      simp only [List.foldl_cons, List.foldl_nil, List.setIfInBounds_toArray, List.set_cons_zero, List.set_cons_succ]
      rcases Bool.eq_false_or_eq_true (in3 o1 o2 a1 a2 b1 b2) with t10 | t10
      · have t10_ := Lib.hid t10
        clear t10
        go_upto_region 2 with fail
        refine region_memo_f (B := W1.heap.size) (L := .val (.agg #[.int .i64 o1, .int .i64 o2]) :: .val (.agg #[.int .i64 a1, .int .i64 a2]) :: .val (.agg #[.int .i64 b1, .int .i64 b2]) :: .new 37 #[.int .i64 o1, .int .i64 o2, .int .i64 a1, .int .i64 a2, .int .i64 b1, .int .i64 b2] (some (3, 3)) :: .val (.bool true) :: .val (.bool false) :: .val (.bool false) :: []) (by kernel_rfl) (Nat.le_refl _) ((by exact trivial))
          ⟨fun a w R => ld_P (R.slot 3 rfl) (R.keep ow3 trivial) rfl rfl, fun a w R => ld_P (R.slot 4 rfl) (R.keep ow4 trivial) rfl rfl, fun a w R => ld_P (R.slot 5 rfl) (R.keep ow5 trivial) rfl rfl, fun a w R => bsP_3 (R.val 0) (R.val 1) (R.val 2), fun a w R => cl_n (enter_at Try.func95) (R.dep 3) (fun g hg => allIn3 t10_.out hg), fun a w R => notb (R.val 4), fun a w R => asg (R.val 5), trivial⟩ (fun act_ W2 I => ?_)
        obtain ⟨gb19, ew19, lw19, ow19⟩ := I.new 3 rfl rfl rfl
        rw [I.act [(16, .agg #[.int .i64 o1, .int .i64 o2]), (17, .agg #[.int .i64 a1, .int .i64 a2]), (18, .agg #[.int .i64 b1, .int .i64 b2]), (19, .slice (some ⟨gb19, 0, none⟩) 3 3), (20, .bool true), (21, .bool false), (15, .bool false)]
          ⟨I.val 0, I.val 1, I.val 2, ew19, I.val 4, I.val 5, I.val 6, trivial⟩ rfl]
        change W1.heap.size ≤ gb19 at lw19
        have sW2 : W1.heap.size ≤ W2.heap.size := I.below.size
        replace ow3 := I.keep ow3 trivial
        replace ow4 := I.keep ow4 trivial
        replace ow5 := I.keep ow5 trivial
        have hW2 : Bel w.heap.size w W2 := thenB hW1 I.below hW1.size
        clear ew19
        clear I
        simp only [List.foldl_cons, List.foldl_nil, List.setIfInBounds_toArray, List.set_cons_zero, List.set_cons_succ]
        rcases Bool.eq_false_or_eq_true (decide (a1 = o1 ∧ a2 = o2)) with t11 | t11
        · have t11_ := Lib.hid t11
          clear t11
          go_upto_region 3 with fail
          refine region_memo_f (B := W2.heap.size) (L := .val (.agg #[.int .i64 a1, .int .i64 a2]) :: .val (.agg #[.int .i64 o1, .int .i64 o2]) :: .val (.bool true) :: .val (.bool true) :: []) (by kernel_rfl) (Nat.le_refl _) ((by exact trivial))
            ⟨fun a w R => ld_P (R.slot 4 rfl) (R.keep ow4 trivial) rfl rfl, fun a w R => ld_P (R.slot 3 rfl) (R.keep ow3 trivial) rfl rfl, fun a w R => (e_eql_P (R.val 0) (R.val 1) ((fun w => (eq_Point _ _ _ _ w).trans (by rw [t11_.out])))), fun a w R => asg (R.val 2), trivial⟩ (fun act_ W3 I => ?_)
          rw [I.act [(22, .agg #[.int .i64 a1, .int .i64 a2]), (23, .agg #[.int .i64 o1, .int .i64 o2]), (24, .bool true), (15, .bool true)]
            ⟨I.val 0, I.val 1, I.val 2, I.val 3, trivial⟩ rfl]
          have sW3 : W2.heap.size ≤ W3.heap.size := I.below.size
          replace ow3 := I.keep ow3 trivial
          replace ow4 := I.keep ow4 trivial
          replace ow5 := I.keep ow5 trivial
          replace ow19 := I.keep ow19 trivial
          have hW3 : Bel w.heap.size w W3 := thenB hW2 I.below hW2.size
          clear I
          simp only [List.foldl_cons, List.foldl_nil, List.setIfInBounds_toArray, List.set_cons_zero, List.set_cons_succ]
          go_upto_region 5 with fail
          refine region_memo_f (B := W3.heap.size) (L := .val (.int .i64 0) :: []) (by kernel_rfl) (Nat.le_refl _) ((by exact trivial))
            ⟨fun a w R => asc, trivial⟩ (fun act_ W4 I => ?_)
          rw [I.act [(6, .int .i64 0)]
            ⟨I.val 0, trivial⟩ rfl]
          have sW4 : W3.heap.size ≤ W4.heap.size := I.below.size
          replace ow3 := I.keep ow3 trivial
          replace ow4 := I.keep ow4 trivial
          replace ow5 := I.keep ow5 trivial
          replace ow19 := I.keep ow19 trivial
          have hW4 : Bel w.heap.size w W4 := thenB hW3 I.below hW3.size
          clear I
          simp only [List.foldl_cons, List.foldl_nil, List.setIfInBounds_toArray, List.set_cons_zero, List.set_cons_succ]
          clear ow3 ow4 ow5 ow19
          go_wp2
          try simp only [setCell_drawn]
          refine bodyPost_ret (by first | (simp [results, Try.results74, go_sem]; done) | (simp [results, Try.results74, go_sem]; rfl)) rfl ⟨?_, hW4⟩
          refine ret_eq ?_; simp only [rdV, t1_.out, t9_.out, t10_.out, t11_.out]; rfl
        · have t11_ := Lib.hid t11
          clear t11
          go_upto_region 3 with fail
          refine region_memo_f (B := W2.heap.size) (L := .val (.agg #[.int .i64 a1, .int .i64 a2]) :: .val (.agg #[.int .i64 o1, .int .i64 o2]) :: .val (.bool false) :: .val (.bool false) :: []) (by kernel_rfl) (Nat.le_refl _) ((by exact trivial))
            ⟨fun a w R => ld_P (R.slot 4 rfl) (R.keep ow4 trivial) rfl rfl, fun a w R => ld_P (R.slot 3 rfl) (R.keep ow3 trivial) rfl rfl, fun a w R => (e_eql_P (R.val 0) (R.val 1) ((fun w => (eq_Point _ _ _ _ w).trans (by rw [t11_.out])))), fun a w R => asg (R.val 2), trivial⟩ (fun act_ W3 I => ?_)
          rw [I.act [(22, .agg #[.int .i64 a1, .int .i64 a2]), (23, .agg #[.int .i64 o1, .int .i64 o2]), (24, .bool false), (15, .bool false)]
            ⟨I.val 0, I.val 1, I.val 2, I.val 3, trivial⟩ rfl]
          have sW3 : W2.heap.size ≤ W3.heap.size := I.below.size
          replace ow3 := I.keep ow3 trivial
          replace ow4 := I.keep ow4 trivial
          replace ow5 := I.keep ow5 trivial
          replace ow19 := I.keep ow19 trivial
          have hW3 : Bel w.heap.size w W3 := thenB hW2 I.below hW2.size
          clear I
          simp only [List.foldl_cons, List.foldl_nil, List.setIfInBounds_toArray, List.set_cons_zero, List.set_cons_succ]
          rcases Bool.eq_false_or_eq_true (decide (b1 = o1 ∧ b2 = o2)) with t12 | t12
          · have t12_ := Lib.hid t12
            clear t12
            go_upto_region 4 with fail
            refine region_memo_f (B := W3.heap.size) (L := .val (.agg #[.int .i64 b1, .int .i64 b2]) :: .val (.agg #[.int .i64 o1, .int .i64 o2]) :: .val (.bool true) :: .val (.bool true) :: []) (by kernel_rfl) (Nat.le_refl _) ((by exact trivial))
              ⟨fun a w R => ld_P (R.slot 5 rfl) (R.keep ow5 trivial) rfl rfl, fun a w R => ld_P (R.slot 3 rfl) (R.keep ow3 trivial) rfl rfl, fun a w R => (e_eql_P (R.val 0) (R.val 1) ((fun w => (eq_Point _ _ _ _ w).trans (by rw [t12_.out])))), fun a w R => asg (R.val 2), trivial⟩ (fun act_ W4 I => ?_)
            rw [I.act [(25, .agg #[.int .i64 b1, .int .i64 b2]), (26, .agg #[.int .i64 o1, .int .i64 o2]), (27, .bool true), (15, .bool true)]
              ⟨I.val 0, I.val 1, I.val 2, I.val 3, trivial⟩ rfl]
            have sW4 : W3.heap.size ≤ W4.heap.size := I.below.size
            replace ow3 := I.keep ow3 trivial
            replace ow4 := I.keep ow4 trivial
            replace ow5 := I.keep ow5 trivial
            replace ow19 := I.keep ow19 trivial
            have hW4 : Bel w.heap.size w W4 := thenB hW3 I.below hW3.size
            clear I
            simp only [List.foldl_cons, List.foldl_nil, List.setIfInBounds_toArray, List.set_cons_zero, List.set_cons_succ]
            go_upto_region 5 with fail
            refine region_memo_f (B := W4.heap.size) (L := .val (.int .i64 0) :: []) (by kernel_rfl) (Nat.le_refl _) ((by exact trivial))
              ⟨fun a w R => asc, trivial⟩ (fun act_ W5 I => ?_)
            rw [I.act [(6, .int .i64 0)]
              ⟨I.val 0, trivial⟩ rfl]
            have sW5 : W4.heap.size ≤ W5.heap.size := I.below.size
            replace ow3 := I.keep ow3 trivial
            replace ow4 := I.keep ow4 trivial
            replace ow5 := I.keep ow5 trivial
            replace ow19 := I.keep ow19 trivial
            have hW5 : Bel w.heap.size w W5 := thenB hW4 I.below hW4.size
            clear I
            simp only [List.foldl_cons, List.foldl_nil, List.setIfInBounds_toArray, List.set_cons_zero, List.set_cons_succ]
            clear ow3 ow4 ow5 ow19
            go_wp2
            try simp only [setCell_drawn]
            refine bodyPost_ret (by first | (simp [results, Try.results74, go_sem]; done) | (simp [results, Try.results74, go_sem]; rfl)) rfl ⟨?_, hW5⟩
            refine ret_eq ?_; simp only [rdV, t1_.out, t9_.out, t10_.out, t11_.out, t12_.out]; rfl
          · have t12_ := Lib.hid t12
            clear t12
            go_upto_region 4 with fail
            refine region_memo_f (B := W3.heap.size) (L := .val (.agg #[.int .i64 b1, .int .i64 b2]) :: .val (.agg #[.int .i64 o1, .int .i64 o2]) :: .val (.bool false) :: .val (.bool false) :: []) (by kernel_rfl) (Nat.le_refl _) ((by exact trivial))
              ⟨fun a w R => ld_P (R.slot 5 rfl) (R.keep ow5 trivial) rfl rfl, fun a w R => ld_P (R.slot 3 rfl) (R.keep ow3 trivial) rfl rfl, fun a w R => (e_eql_P (R.val 0) (R.val 1) ((fun w => (eq_Point _ _ _ _ w).trans (by rw [t12_.out])))), fun a w R => asg (R.val 2), trivial⟩ (fun act_ W4 I => ?_)
            rw [I.act [(25, .agg #[.int .i64 b1, .int .i64 b2]), (26, .agg #[.int .i64 o1, .int .i64 o2]), (27, .bool false), (15, .bool false)]
              ⟨I.val 0, I.val 1, I.val 2, I.val 3, trivial⟩ rfl]
            have sW4 : W3.heap.size ≤ W4.heap.size := I.below.size
            replace ow3 := I.keep ow3 trivial
            replace ow4 := I.keep ow4 trivial
            replace ow5 := I.keep ow5 trivial
            replace ow19 := I.keep ow19 trivial
            have hW4 : Bel w.heap.size w W4 := thenB hW3 I.below hW3.size
            clear I
            simp only [List.foldl_cons, List.foldl_nil, List.setIfInBounds_toArray, List.set_cons_zero, List.set_cons_succ]
            go_upto_region 6 with fail
            refine region_memo_f (B := W4.heap.size) (L := .val (.bool false) :: .val (.bool true) :: .val (.bool true) :: .val (.bool true) :: .val (.bool true) :: .val (.bool true) :: []) (by kernel_rfl) (Nat.le_refl _) ((by exact trivial))
              ⟨fun a w R => mv (R.slot 7 rfl), fun a w R => notb (R.val 0), fun a w R => mv (R.val 1), fun a w R => mv (R.slot 8 rfl), fun a w R => pickt (R.val 2) (R.val 3), fun a w R => asg (R.val 4), trivial⟩ (fun act_ W5 I => ?_)
            rw [I.act [(29, .bool false), (30, .bool true), (31, .bool true), (32, .bool true), (33, .bool true), (28, .bool true)]
              ⟨I.val 0, I.val 1, I.val 2, I.val 3, I.val 4, I.val 5, trivial⟩ rfl]
            have sW5 : W4.heap.size ≤ W5.heap.size := I.below.size
            replace ow3 := I.keep ow3 trivial
            replace ow4 := I.keep ow4 trivial
            replace ow5 := I.keep ow5 trivial
            replace ow19 := I.keep ow19 trivial
            have hW5 : Bel w.heap.size w W5 := thenB hW4 I.below hW4.size
            clear I
            simp only [List.foldl_cons, List.foldl_nil, List.setIfInBounds_toArray, List.set_cons_zero, List.set_cons_succ]
            go_upto_region 7 with fail
            refine region_memo_f (B := W5.heap.size) (L := .val (.int .i64 (-1)) :: []) (by kernel_rfl) (Nat.le_refl _) ((by exact trivial))
              ⟨fun a w R => asc, trivial⟩ (fun act_ W6 I => ?_)
            rw [I.act [(6, .int .i64 (-1))]
              ⟨I.val 0, trivial⟩ rfl]
            have sW6 : W5.heap.size ≤ W6.heap.size := I.below.size
            replace ow3 := I.keep ow3 trivial
            replace ow4 := I.keep ow4 trivial
            replace ow5 := I.keep ow5 trivial
            replace ow19 := I.keep ow19 trivial
            have hW6 : Bel w.heap.size w W6 := thenB hW5 I.below hW5.size
            clear I
            simp only [List.foldl_cons, List.foldl_nil, List.setIfInBounds_toArray, List.set_cons_zero, List.set_cons_succ]
            clear ow3 ow4 ow5 ow19
            go_wp2
            try simp only [setCell_drawn]
            refine bodyPost_ret (by first | (simp [results, Try.results74, go_sem]; done) | (simp [results, Try.results74, go_sem]; rfl)) rfl ⟨?_, hW6⟩
            refine ret_eq ?_; simp only [rdV, t1_.out, t9_.out, t10_.out, t11_.out, t12_.out]; rfl
      · have t10_ := Lib.hid t10
        clear t10
        go_upto_region 2 with fail
        refine region_memo_f (B := W1.heap.size) (L := .val (.agg #[.int .i64 o1, .int .i64 o2]) :: .val (.agg #[.int .i64 a1, .int .i64 a2]) :: .val (.agg #[.int .i64 b1, .int .i64 b2]) :: .new 37 #[.int .i64 o1, .int .i64 o2, .int .i64 a1, .int .i64 a2, .int .i64 b1, .int .i64 b2] (some (3, 3)) :: .val (.bool false) :: .val (.bool true) :: .val (.bool true) :: []) (by kernel_rfl) (Nat.le_refl _) ((by exact trivial))
          ⟨fun a w R => ld_P (R.slot 3 rfl) (R.keep ow3 trivial) rfl rfl, fun a w R => ld_P (R.slot 4 rfl) (R.keep ow4 trivial) rfl rfl, fun a w R => ld_P (R.slot 5 rfl) (R.keep ow5 trivial) rfl rfl, fun a w R => bsP_3 (R.val 0) (R.val 1) (R.val 2), fun a w R => cl_n (enter_at Try.func95) (R.dep 3) (fun g hg => allIn3 t10_.out hg), fun a w R => notb (R.val 4), fun a w R => asg (R.val 5), trivial⟩ (fun act_ W2 I => ?_)
        obtain ⟨gb19, ew19, lw19, ow19⟩ := I.new 3 rfl rfl rfl
        rw [I.act [(16, .agg #[.int .i64 o1, .int .i64 o2]), (17, .agg #[.int .i64 a1, .int .i64 a2]), (18, .agg #[.int .i64 b1, .int .i64 b2]), (19, .slice (some ⟨gb19, 0, none⟩) 3 3), (20, .bool false), (21, .bool true), (15, .bool true)]
          ⟨I.val 0, I.val 1, I.val 2, ew19, I.val 4, I.val 5, I.val 6, trivial⟩ rfl]
        change W1.heap.size ≤ gb19 at lw19
        have sW2 : W1.heap.size ≤ W2.heap.size := I.below.size
        replace ow3 := I.keep ow3 trivial
        replace ow4 := I.keep ow4 trivial
        replace ow5 := I.keep ow5 trivial
        have hW2 : Bel w.heap.size w W2 := thenB hW1 I.below hW1.size
        clear ew19
        clear I
        simp only [List.foldl_cons, List.foldl_nil, List.setIfInBounds_toArray, List.set_cons_zero, List.set_cons_succ]
        go_upto_region 5 with fail
        refine region_memo_f (B := W2.heap.size) (L := .val (.int .i64 0) :: []) (by kernel_rfl) (Nat.le_refl _) ((by exact trivial))
          ⟨fun a w R => asc, trivial⟩ (fun act_ W3 I => ?_)
        rw [I.act [(6, .int .i64 0)]
          ⟨I.val 0, trivial⟩ rfl]
        have sW3 : W2.heap.size ≤ W3.heap.size := I.below.size
        replace ow3 := I.keep ow3 trivial
        replace ow4 := I.keep ow4 trivial
        replace ow5 := I.keep ow5 trivial
        replace ow19 := I.keep ow19 trivial
        have hW3 : Bel w.heap.size w W3 := thenB hW2 I.below hW2.size
        clear I
        simp only [List.foldl_cons, List.foldl_nil, List.setIfInBounds_toArray, List.set_cons_zero, List.set_cons_succ]
        clear ow3 ow4 ow5 ow19
        go_wp2
        try simp only [setCell_drawn]
        refine bodyPost_ret (by first | (simp [results, Try.results74, go_sem]; done) | (simp [results, Try.results74, go_sem]; rfl)) rfl ⟨?_, hW3⟩
        refine ret_eq ?_; simp only [rdV, t1_.out, t9_.out, t10_.out]; rfl
    · have t9_ := Lib.hid t9
      clear t9
      go_upto_region 1 with fail
      refine region_memo (B := W0.heap.size) (L := .val (.agg #[.int .i64 o1, .int .i64 o2]) :: .val (.agg #[.int .i64 a1, .int .i64 a2]) :: .val (.bool false) :: .val (.agg #[.int .i64 o1, .int .i64 o2]) :: .val (.agg #[.int .i64 b1, .int .i64 b2]) :: .val (.bool false) :: .val (.bool false) :: .val (.bool false) :: []) (by kernel_rfl) (by kernel_rfl) (Nat.le_refl _) ((by exact trivial))
        ⟨fun a w R => ld_P (R.slot 3 rfl) (R.keep ow3.drawn trivial) rfl rfl, fun a w R => ld_P (R.slot 4 rfl) (R.keep ow4.drawn trivial) rfl rfl, fun a w R => cl_tt (enter_at Try.func94) (R.val 0) (R.val 1) (late_is t1_.out _), fun a w R => ld_P (R.slot 3 rfl) (R.keep ow3.drawn trivial) rfl rfl, fun a w R => ld_P (R.slot 5 rfl) (R.keep ow5.drawn trivial) rfl rfl, fun a w R => cl_tt (enter_at Try.func94) (R.val 3) (R.val 4) (late_is t9_.out _), fun a w R => asg (R.val 2), fun a w R => asg (R.val 5), trivial⟩ (fun act_ W1 I => ?_)
      rw [I.act [(9, .agg #[.int .i64 o1, .int .i64 o2]), (10, .agg #[.int .i64 a1, .int .i64 a2]), (11, .bool false), (12, .agg #[.int .i64 o1, .int .i64 o2]), (13, .agg #[.int .i64 b1, .int .i64 b2]), (14, .bool false), (7, .bool false), (8, .bool false)]
        ⟨I.val 0, I.val 1, I.val 2, I.val 3, I.val 4, I.val 5, I.val 6, I.val 7, trivial⟩ rfl]
      have sW1 : W0.heap.size ≤ W1.heap.size := I.below.size
      replace ow3 := I.keep ow3.drawn trivial
      replace ow4 := I.keep ow4.drawn trivial
      replace ow5 := I.keep ow5.drawn trivial
      have hW1 : Bel w.heap.size w W1 := thenB hW0.drew I.below hW0.size
      clear I
      simp only [List.foldl_cons, List.foldl_nil, List.setIfInBounds_toArray, List.set_cons_zero, List.set_cons_succ]
      rcases Bool.eq_false_or_eq_true (in3 o1 o2 a1 a2 b1 b2) with t13 | t13
      · have t13_ := Lib.hid t13
        clear t13
        go_upto_region 2 with fail
        refine region_memo_f (B := W1.heap.size) (L := .val (.agg #[.int .i64 o1, .int .i64 o2]) :: .val (.agg #[.int .i64 a1, .int .i64 a2]) :: .val (.agg #[.int .i64 b1, .int .i64 b2]) :: .new 37 #[.int .i64 o1, .int .i64 o2, .int .i64 a1, .int .i64 a2, .int .i64 b1, .int .i64 b2] (some (3, 3)) :: .val (.bool true) :: .val (.bool false) :: .val (.bool false) :: []) (by kernel_rfl) (Nat.le_refl _) ((by exact trivial))
          ⟨fun a w R => ld_P (R.slot 3 rfl) (R.keep ow3 trivial) rfl rfl, fun a w R => ld_P (R.slot 4 rfl) (R.keep ow4 trivial) rfl rfl, fun a w R => ld_P (R.slot 5 rfl) (R.keep ow5 trivial) rfl rfl, fun a w R => bsP_3 (R.val 0) (R.val 1) (R.val 2), fun a w R => cl_n (enter_at Try.func95) (R.dep 3) (fun g hg => allIn3 t13_.out hg), fun a w R => notb (R.val 4), fun a w R => asg (R.val 5), trivial⟩ (fun act_ W2 I => ?_)
        obtain ⟨gb19, ew19, lw19, ow19⟩ := I.new 3 rfl rfl rfl
        rw [I.act [(16, .agg #[.int .i64 o1, .int .i64 o2]), (17, .agg #[.int .i64 a1, .int .i64 a2]), (18, .agg #[.int .i64 b1, .int .i64 b2]), (19, .slice (some ⟨gb19, 0, none⟩) 3 3), (20, .bool true), (21, .bool false), (15, .bool false)]
          ⟨I.val 0, I.val 1, I.val 2, ew19, I.val 4, I.val 5, I.val 6, trivial⟩ rfl]
        change W1.heap.size ≤ gb19 at lw19
        have sW2 : W1.heap.size ≤ W2.heap.size := I.below.size
        replace ow3 := I.keep ow3 trivial
        replace ow4 := I.keep ow4 trivial
        replace ow5 := I.keep ow5 trivial
        have hW2 : Bel w.heap.size w W2 := thenB hW1 I.below hW1.size
        clear ew19
        clear I
        simp only [List.foldl_cons, List.foldl_nil, List.setIfInBounds_toArray, List.set_cons_zero, List.set_cons_succ]
        rcases Bool.eq_false_or_eq_true (decide (a1 = o1 ∧ a2 = o2)) with t14 | t14
        · have t14_ := Lib.hid t14
          clear t14
          go_upto_region 3 with fail
          refine region_memo_f (B := W2.heap.size) (L := .val (.agg #[.int .i64 a1, .int .i64 a2]) :: .val (.agg #[.int .i64 o1, .int .i64 o2]) :: .val (.bool true) :: .val (.bool true) :: []) (by kernel_rfl) (Nat.le_refl _) ((by exact trivial))
            ⟨fun a w R => ld_P (R.slot 4 rfl) (R.keep ow4 trivial) rfl rfl, fun a w R => ld_P (R.slot 3 rfl) (R.keep ow3 trivial) rfl rfl, fun a w R => (e_eql_P (R.val 0) (R.val 1) ((fun w => (eq_Point _ _ _ _ w).trans (by rw [t14_.out])))), fun a w R => asg (R.val 2), trivial⟩ (fun act_ W3 I => ?_)
          rw [I.act [(22, .agg #[.int .i64 a1, .int .i64 a2]), (23, .agg #[.int .i64 o1, .int .i64 o2]), (24, .bool true), (15, .bool true)]
            ⟨I.val 0, I.val 1, I.val 2, I.val 3, trivial⟩ rfl]
          have sW3 : W2.heap.size ≤ W3.heap.size := I.below.size
          replace ow3 := I.keep ow3 trivial
          replace ow4 := I.keep ow4 trivial
          replace ow5 := I.keep ow5 trivial
          replace ow19 := I.keep ow19 trivial
          have hW3 : Bel w.heap.size w W3 := thenB hW2 I.below hW2.size
          clear I
          simp only [List.foldl_cons, List.foldl_nil, List.setIfInBounds_toArray, List.set_cons_zero, List.set_cons_succ]
          go_upto_region 5 with fail
          refine region_memo_f (B := W3.heap.size) (L := .val (.int .i64 0) :: []) (by kernel_rfl) (Nat.le_refl _) ((by exact trivial))
            ⟨fun a w R => asc, trivial⟩ (fun act_ W4 I => ?_)
          rw [I.act [(6, .int .i64 0)]
            ⟨I.val 0, trivial⟩ rfl]
          have sW4 : W3.heap.size ≤ W4.heap.size := I.below.size
          replace ow3 := I.keep ow3 trivial
          replace ow4 := I.keep ow4 trivial
          replace ow5 := I.keep ow5 trivial
          replace ow19 := I.keep ow19 trivial
          have hW4 : Bel w.heap.size w W4 := thenB hW3 I.below hW3.size
          clear I
          simp only [List.foldl_cons, List.foldl_nil, List.setIfInBounds_toArray, List.set_cons_zero, List.set_cons_succ]
          clear ow3 ow4 ow5 ow19
          go_wp2
          try simp only [setCell_drawn]
          refine bodyPost_ret (by first | (simp [results, Try.results74, go_sem]; done) | (simp [results, Try.results74, go_sem]; rfl)) rfl ⟨?_, hW4⟩
          refine ret_eq ?_; simp only [rdV, t1_.out, t9_.out, t13_.out, t14_.out]; rfl
        · have t14_ := Lib.hid t14
          clear t14
          go_upto_region 3 with fail
          refine region_memo_f (B := W2.heap.size) (L := .val (.agg #[.int .i64 a1, .int .i64 a2]) :: .val (.agg #[.int .i64 o1, .int .i64 o2]) :: .val (.bool false) :: .val (.bool false) :: []) (by kernel_rfl) (Nat.le_refl _) ((by exact trivial))
            ⟨fun a w R => ld_P (R.slot 4 rfl) (R.keep ow4 trivial) rfl rfl, fun a w R => ld_P (R.slot 3 rfl) (R.keep ow3 trivial) rfl rfl, fun a w R => (e_eql_P (R.val 0) (R.val 1) ((fun w => (eq_Point _ _ _ _ w).trans (by rw [t14_.out])))), fun a w R => asg (R.val 2), trivial⟩ (fun act_ W3 I => ?_)
          rw [I.act [(22, .agg #[.int .i64 a1, .int .i64 a2]), (23, .agg #[.int .i64 o1, .int .i64 o2]), (24, .bool false), (15, .bool false)]
            ⟨I.val 0, I.val 1, I.val 2, I.val 3, trivial⟩ rfl]
          have sW3 : W2.heap.size ≤ W3.heap.size := I.below.size
          replace ow3 := I.keep ow3 trivial
          replace ow4 := I.keep ow4 trivial
          replace ow5 := I.keep ow5 trivial
          replace ow19 := I.keep ow19 trivial
          have hW3 : Bel w.heap.size w W3 := thenB hW2 I.below hW2.size
          clear I
          simp only [List.foldl_cons, List.foldl_nil, List.setIfInBounds_toArray, List.set_cons_zero, List.set_cons_succ]
          rcases Bool.eq_false_or_eq_true (decide (b1 = o1 ∧ b2 = o2)) with t15 | t15
          · have t15_ := Lib.hid t15
            clear t15
            go_upto_region 4 with fail
            refine region_memo_f (B := W3.heap.size) (L := .val (.agg #[.int .i64 b1, .int .i64 b2]) :: .val (.agg #[.int .i64 o1, .int .i64 o2]) :: .val (.bool true) :: .val (.bool true) :: []) (by kernel_rfl) (Nat.le_refl _) ((by exact trivial))
              ⟨fun a w R => ld_P (R.slot 5 rfl) (R.keep ow5 trivial) rfl rfl, fun a w R => ld_P (R.slot 3 rfl) (R.keep ow3 trivial) rfl rfl, fun a w R => (e_eql_P (R.val 0) (R.val 1) ((fun w => (eq_Point _ _ _ _ w).trans (by rw [t15_.out])))), fun a w R => asg (R.val 2), trivial⟩ (fun act_ W4 I => ?_)
            rw [I.act [(25, .agg #[.int .i64 b1, .int .i64 b2]), (26, .agg #[.int .i64 o1, .int .i64 o2]), (27, .bool true), (15, .bool true)]
              ⟨I.val 0, I.val 1, I.val 2, I.val 3, trivial⟩ rfl]
            have sW4 : W3.heap.size ≤ W4.heap.size := I.below.size
            replace ow3 := I.keep ow3 trivial
            replace ow4 := I.keep ow4 trivial
            replace ow5 := I.keep ow5 trivial
            replace ow19 := I.keep ow19 trivial
            have hW4 : Bel w.heap.size w W4 := thenB hW3 I.below hW3.size
            clear I
            simp only [List.foldl_cons, List.foldl_nil, List.setIfInBounds_toArray, List.set_cons_zero, List.set_cons_succ]
            go_upto_region 5 with fail
            refine region_memo_f (B := W4.heap.size) (L := .val (.int .i64 0) :: []) (by kernel_rfl) (Nat.le_refl _) ((by exact trivial))
              ⟨fun a w R => asc, trivial⟩ (fun act_ W5 I => ?_)
            rw [I.act [(6, .int .i64 0)]
              ⟨I.val 0, trivial⟩ rfl]
            have sW5 : W4.heap.size ≤ W5.heap.size := I.below.size
            replace ow3 := I.keep ow3 trivial
            replace ow4 := I.keep ow4 trivial
            replace ow5 := I.keep ow5 trivial
            replace ow19 := I.keep ow19 trivial
            have hW5 : Bel w.heap.size w W5 := thenB hW4 I.below hW4.size
            clear I
            simp only [List.foldl_cons, List.foldl_nil, List.setIfInBounds_toArray, List.set_cons_zero, List.set_cons_succ]
            clear ow3 ow4 ow5 ow19
            go_wp2
            try simp only [setCell_drawn]
            refine bodyPost_ret (by first | (simp [results, Try.results74, go_sem]; done) | (simp [results, Try.results74, go_sem]; rfl)) rfl ⟨?_, hW5⟩
            refine ret_eq ?_; simp only [rdV, t1_.out, t9_.out, t13_.out, t14_.out, t15_.out]; rfl
          · have t15_ := Lib.hid t15
            clear t15
            go_upto_region 4 with fail
            refine region_memo_f (B := W3.heap.size) (L := .val (.agg #[.int .i64 b1, .int .i64 b2]) :: .val (.agg #[.int .i64 o1, .int .i64 o2]) :: .val (.bool false) :: .val (.bool false) :: []) (by kernel_rfl) (Nat.le_refl _) ((by exact trivial))
              ⟨fun a w R => ld_P (R.slot 5 rfl) (R.keep ow5 trivial) rfl rfl, fun a w R => ld_P (R.slot 3 rfl) (R.keep ow3 trivial) rfl rfl, fun a w R => (e_eql_P (R.val 0) (R.val 1) ((fun w => (eq_Point _ _ _ _ w).trans (by rw [t15_.out])))), fun a w R => asg (R.val 2), trivial⟩ (fun act_ W4 I => ?_)
            rw [I.act [(25, .agg #[.int .i64 b1, .int .i64 b2]), (26, .agg #[.int .i64 o1, .int .i64 o2]), (27, .bool false), (15, .bool false)]
              ⟨I.val 0, I.val 1, I.val 2, I.val 3, trivial⟩ rfl]
            have sW4 : W3.heap.size ≤ W4.heap.size := I.below.size
            replace ow3 := I.keep ow3 trivial
            replace ow4 := I.keep ow4 trivial
            replace ow5 := I.keep ow5 trivial
            replace ow19 := I.keep ow19 trivial
            have hW4 : Bel w.heap.size w W4 := thenB hW3 I.below hW3.size
            clear I
            simp only [List.foldl_cons, List.foldl_nil, List.setIfInBounds_toArray, List.set_cons_zero, List.set_cons_succ]
            go_upto_region 6 with fail
            refine region_memo_f (B := W4.heap.size) (L := .val (.bool false) :: .val (.bool true) :: .val (.bool true) :: .val (.bool false) :: .val (.bool false) :: .val (.bool false) :: []) (by kernel_rfl) (Nat.le_refl _) ((by exact trivial))
              ⟨fun a w R => mv (R.slot 7 rfl), fun a w R => notb (R.val 0), fun a w R => mv (R.val 1), fun a w R => mv (R.slot 8 rfl), fun a w R => pickt (R.val 2) (R.val 3), fun a w R => asg (R.val 4), trivial⟩ (fun act_ W5 I => ?_)
            rw [I.act [(29, .bool false), (30, .bool true), (31, .bool true), (32, .bool false), (33, .bool false), (28, .bool false)]
              ⟨I.val 0, I.val 1, I.val 2, I.val 3, I.val 4, I.val 5, trivial⟩ rfl]
            have sW5 : W4.heap.size ≤ W5.heap.size := I.below.size
            replace ow3 := I.keep ow3 trivial
            replace ow4 := I.keep ow4 trivial
            replace ow5 := I.keep ow5 trivial
            replace ow19 := I.keep ow19 trivial
            have hW5 : Bel w.heap.size w W5 := thenB hW4 I.below hW4.size
            clear I
            simp only [List.foldl_cons, List.foldl_nil, List.setIfInBounds_toArray, List.set_cons_zero, List.set_cons_succ]
            go_upto_region 8 with fail
            refine region_memo_f (B := W5.heap.size) (L := .val (.bool false) :: .val (.bool false) :: .skip :: .skip :: .val (.bool false) :: .val (.bool false) :: []) (by kernel_rfl) (Nat.le_refl _) ((by exact trivial))
              ⟨fun a w R => mv (R.slot 7 rfl), fun a w R => mv (R.val 0), fun a w R => True.intro, fun a w R => True.intro, fun a w R => pickf (R.val 1) (R.goneS 3), fun a w R => asg (R.val 4), trivial⟩ (fun act_ W6 I => ?_)
            rw [I.act [(35, .bool false), (36, .bool false), (37, undef), (38, undef), (39, .bool false), (34, .bool false)]
              ⟨I.val 0, I.val 1, I.gone 2, I.gone 3, I.val 4, I.val 5, trivial⟩ rfl]
            have sW6 : W5.heap.size ≤ W6.heap.size := I.below.size
            replace ow3 := I.keep ow3 trivial
            replace ow4 := I.keep ow4 trivial
            replace ow5 := I.keep ow5 trivial
            replace ow19 := I.keep ow19 trivial
            have hW6 : Bel w.heap.size w W6 := thenB hW5 I.below hW5.size
            clear I
            simp only [List.foldl_cons, List.foldl_nil, List.setIfInBounds_toArray, List.set_cons_zero, List.set_cons_succ]
            go_upto_region 10 with fail
            refine region_memo_f (B := W6.heap.size) (L := .val (.agg #[.int .i64 o1, .int .i64 o2]) :: .val (.agg #[.int .i64 a1, .int .i64 a2]) :: .val (.agg #[.int .i64 b1, .int .i64 b2]) :: .val (.int .i64 (tn o1 o2 a1 a2 b1 b2)) :: .val (.int .i64 (-(tn o1 o2 a1 a2 b1 b2))) :: .val (.int .i64 (-(tn o1 o2 a1 a2 b1 b2))) :: []) (by kernel_rfl) (Nat.le_refl _) ((by exact trivial))
              ⟨fun a w R => ld_P (R.slot 3 rfl) (R.keep ow3 trivial) rfl rfl, fun a w R => ld_P (R.slot 4 rfl) (R.keep ow4 trivial) rfl rfl, fun a w R => ld_P (R.slot 5 rfl) (R.keep ow5 trivial) rfl rfl, fun a w R => cl_ttt (enter_at Try.func96) (R.val 0) (R.val 1) (R.val 2) (Turn_in (in3_iff.2 ⟨(in3_iff.1 t13_.out).1, (in3_iff.1 t13_.out).2.1, (in3_iff.1 t13_.out).2.2⟩) _), fun a w R => negi (R.val 3) (by first | rfl | exact tn_wrap _ _ | exact tn_negw _ | (simp only [IntKind.wrap_i64]; omega)), fun a w R => asg (R.val 4), trivial⟩ (fun act_ W7 I => ?_)
            rw [I.act [(40, .agg #[.int .i64 o1, .int .i64 o2]), (41, .agg #[.int .i64 a1, .int .i64 a2]), (42, .agg #[.int .i64 b1, .int .i64 b2]), (43, .int .i64 (tn o1 o2 a1 a2 b1 b2)), (44, .int .i64 (-(tn o1 o2 a1 a2 b1 b2))), (6, .int .i64 (-(tn o1 o2 a1 a2 b1 b2)))]
              ⟨I.val 0, I.val 1, I.val 2, I.val 3, I.val 4, I.val 5, trivial⟩ rfl]
            have sW7 : W6.heap.size ≤ W7.heap.size := I.below.size
            replace ow3 := I.keep ow3 trivial
            replace ow4 := I.keep ow4 trivial
            replace ow5 := I.keep ow5 trivial
            replace ow19 := I.keep ow19 trivial
            have hW7 : Bel w.heap.size w W7 := thenB hW6 I.below hW6.size
            clear I
            simp only [List.foldl_cons, List.foldl_nil, List.setIfInBounds_toArray, List.set_cons_zero, List.set_cons_succ]
            clear ow3 ow4 ow5 ow19
            go_wp2
            try simp only [setCell_drawn]
            refine bodyPost_ret (by first | (simp [results, Try.results74, go_sem]; done) | (simp [results, Try.results74, go_sem]; rfl)) rfl ⟨?_, hW7⟩
            refine ret_eq ?_; simp only [rdV, t1_.out, t9_.out, t13_.out, t14_.out, t15_.out]; rfl
      · have t13_ := Lib.hid t13
        clear t13
        go_upto_region 2 with fail
        refine region_memo_f (B := W1.heap.size) (L := .val (.agg #[.int .i64 o1, .int .i64 o2]) :: .val (.agg #[.int .i64 a1, .int .i64 a2]) :: .val (.agg #[.int .i64 b1, .int .i64 b2]) :: .new 37 #[.int .i64 o1, .int .i64 o2, .int .i64 a1, .int .i64 a2, .int .i64 b1, .int .i64 b2] (some (3, 3)) :: .val (.bool false) :: .val (.bool true) :: .val (.bool true) :: []) (by kernel_rfl) (Nat.le_refl _) ((by exact trivial))
          ⟨fun a w R => ld_P (R.slot 3 rfl) (R.keep ow3 trivial) rfl rfl, fun a w R => ld_P (R.slot 4 rfl) (R.keep ow4 trivial) rfl rfl, fun a w R => ld_P (R.slot 5 rfl) (R.keep ow5 trivial) rfl rfl, fun a w R => bsP_3 (R.val 0) (R.val 1) (R.val 2), fun a w R => cl_n (enter_at Try.func95) (R.dep 3) (fun g hg => allIn3 t13_.out hg), fun a w R => notb (R.val 4), fun a w R => asg (R.val 5), trivial⟩ (fun act_ W2 I => ?_)
        obtain ⟨gb19, ew19, lw19, ow19⟩ := I.new 3 rfl rfl rfl
        rw [I.act [(16, .agg #[.int .i64 o1, .int .i64 o2]), (17, .agg #[.int .i64 a1, .int .i64 a2]), (18, .agg #[.int .i64 b1, .int .i64 b2]), (19, .slice (some ⟨gb19, 0, none⟩) 3 3), (20, .bool false), (21, .bool true), (15, .bool true)]
          ⟨I.val 0, I.val 1, I.val 2, ew19, I.val 4, I.val 5, I.val 6, trivial⟩ rfl]
        change W1.heap.size ≤ gb19 at lw19
        have sW2 : W1.heap.size ≤ W2.heap.size := I.below.size
        replace ow3 := I.keep ow3 trivial
        replace ow4 := I.keep ow4 trivial
        replace ow5 := I.keep ow5 trivial
        have hW2 : Bel w.heap.size w W2 := thenB hW1 I.below hW1.size
        clear ew19
        clear I
        simp only [List.foldl_cons, List.foldl_nil, List.setIfInBounds_toArray, List.set_cons_zero, List.set_cons_succ]
        go_upto_region 5 with fail
        refine region_memo_f (B := W2.heap.size) (L := .val (.int .i64 0) :: []) (by kernel_rfl) (Nat.le_refl _) ((by exact trivial))
          ⟨fun a w R => asc, trivial⟩ (fun act_ W3 I => ?_)
        rw [I.act [(6, .int .i64 0)]
          ⟨I.val 0, trivial⟩ rfl]
        have sW3 : W2.heap.size ≤ W3.heap.size := I.below.size
        replace ow3 := I.keep ow3 trivial
        replace ow4 := I.keep ow4 trivial
        replace ow5 := I.keep ow5 trivial
        replace ow19 := I.keep ow19 trivial
        have hW3 : Bel w.heap.size w W3 := thenB hW2 I.below hW2.size
        clear I
        simp only [List.foldl_cons, List.foldl_nil, List.setIfInBounds_toArray, List.set_cons_zero, List.set_cons_succ]
        clear ow3 ow4 ow5 ow19
        go_wp2
        try simp only [setCell_drawn]
        refine bodyPost_ret (by first | (simp [results, Try.results74, go_sem]; done) | (simp [results, Try.results74, go_sem]; rfl)) rfl ⟨?_, hW3⟩
        refine ret_eq ?_; simp only [rdV, t1_.out, t9_.out, t13_.out]; rfl
end Go.Proofs.Ytibnackmddigaaa
