
/- The contract of Meet of geom; written by auto_geom2.py. No condition. -/
import Derived.Test.YtibnackmddigaaaGeoP
namespace Go.Proofs.Ytibnackmddigaaa
open Go.ChangeShapes Go.WideShapes Go.ChangeAt Go.RowKit
set_option linter.unusedVariables false
set_option linter.unusedSimpArgs false

def mtB (a1 a2 b1 b2 c1 c2 d1 d2 : Int) : Bool := in4 a1 a2 b1 b2 c1 c2 d1 d2 && !decide (a1 = b1 ∧ a2 = b2) && !decide (c1 = d1 ∧ c2 = d2) && ((decide (a1 = c1 ∧ a2 = c2) && decide (b1 = d1 ∧ b2 = d2)) || (decide (a1 = d1 ∧ a2 = d2) && decide (b1 = c1 ∧ b2 = c2)) || onB a1 a2 c1 c2 d1 d2 || onB b1 b2 c1 c2 d1 d2 || onB c1 c2 a1 a2 b1 b2 || onB d1 d2 a1 a2 b1 b2 || (ptB a1 a2 b1 b2 c1 c2 d1 d2 && ptB c1 c2 d1 d2 a1 a2 b1 b2))
set_option maxHeartbeats 16000000 in
set_option maxRecDepth 20000 in
theorem Meet_any {a1 a2 b1 b2 c1 c2 d1 d2 : Int}  (w : World) : Calls Try.prog 101 #[.agg #[.int .i64 a1, .int .i64 a2], .agg #[.int .i64 b1, .int .i64 b2], .agg #[.int .i64 c1, .int .i64 c2], .agg #[.int .i64 d1, .int .i64 d2]] w fun e w' => e = .returned (.bool (mtB a1 a2 b1 b2 c1 c2 d1 d2)) ∧ Bel w.heap.size w w' := by
  go_enter Try.func101, Try.ntmps101
  go_upto_region 1 with fail
  go_name_world W0 hW0e
  have ow4 : Own W0 w.heap.size 37 #[.int .i64 a1, .int .i64 a2] := hW0e ▸ (by repeat' (first | (with_reducible assumption) | (with_reducible refine Own.drawnN ?_ _) | (with_reducible refine Own.drawn ?_) | (with_reducible refine Own.made_at ?_; first | rfl | (simp; done) | omega | (simp; omega)) | (with_reducible refine Own.more ?_ _) | (with_reducible refine Own.apart ?_ ?_ _ _; rotate_left; first | omega | (simp; done) | (simp; omega)) | (refine Own.put ?_ _ _)))
  have ow5 : Own W0 (w.heap.size + 1) 37 #[.int .i64 b1, .int .i64 b2] := hW0e ▸ (by repeat' (first | (with_reducible assumption) | (with_reducible refine Own.drawnN ?_ _) | (with_reducible refine Own.drawn ?_) | (with_reducible refine Own.made_at ?_; first | rfl | (simp; done) | omega | (simp; omega)) | (with_reducible refine Own.more ?_ _) | (with_reducible refine Own.apart ?_ ?_ _ _; rotate_left; first | omega | (simp; done) | (simp; omega)) | (refine Own.put ?_ _ _)))
  have ow6 : Own W0 (w.heap.size + 1 + 1) 37 #[.int .i64 c1, .int .i64 c2] := hW0e ▸ (by repeat' (first | (with_reducible assumption) | (with_reducible refine Own.drawnN ?_ _) | (with_reducible refine Own.drawn ?_) | (with_reducible refine Own.made_at ?_; first | rfl | (simp; done) | omega | (simp; omega)) | (with_reducible refine Own.more ?_ _) | (with_reducible refine Own.apart ?_ ?_ _ _; rotate_left; first | omega | (simp; done) | (simp; omega)) | (refine Own.put ?_ _ _)))
  have ow7 : Own W0 (w.heap.size + 1 + 1 + 1) 37 #[.int .i64 d1, .int .i64 d2] := hW0e ▸ (by repeat' (first | (with_reducible assumption) | (with_reducible refine Own.drawnN ?_ _) | (with_reducible refine Own.drawn ?_) | (with_reducible refine Own.made_at ?_; first | rfl | (simp; done) | omega | (simp; omega)) | (with_reducible refine Own.more ?_ _) | (with_reducible refine Own.apart ?_ ?_ _ _; rotate_left; first | omega | (simp; done) | (simp; omega)) | (refine Own.put ?_ _ _)))
  have hW0 : Bel w.heap.size w W0 := hW0e ▸ (by repeat' (first | (with_reducible exact Bel.refl _ _) | (with_reducible assumption) | (with_reducible refine bel_drewN ?_ _) | (with_reducible refine Bel.drew ?_) | (with_reducible refine Bel.alloc ?_ ?_ _) | (with_reducible refine Bel.setCell ?_ ?_ _) | (with_reducible refine thenB ?_ (by with_reducible assumption) ?_) | (with_reducible exact Nat.le_refl _) | (with_reducible exact Nat.le_succ _) | (with_reducible exact Nat.le_succ_of_le (by with_reducible assumption)) | omega | (simp; done) | (simp; omega) | (exact Nat.le_succ _) | (exact Nat.le_succ_of_le (by with_reducible assumption))))
  clear hW0e
  have z0 := ow7.in_
  rcases Bool.eq_false_or_eq_true (in4 a1 a2 b1 b2 c1 c2 d1 d2) with t1 | t1
  · have t1_ := Lib.hid t1
    clear t1
    go_upto_region 1 with fail
    refine region_memo_f (B := W0.heap.size) (L := .val (.agg #[.int .i64 a1, .int .i64 a2]) :: .val (.agg #[.int .i64 b1, .int .i64 b2]) :: .val (.agg #[.int .i64 c1, .int .i64 c2]) :: .val (.agg #[.int .i64 d1, .int .i64 d2]) :: .new 37 #[.int .i64 a1, .int .i64 a2, .int .i64 b1, .int .i64 b2, .int .i64 c1, .int .i64 c2, .int .i64 d1, .int .i64 d2] (some (4, 4)) :: .val (.bool true) :: .val (.bool false) :: .val (.bool false) :: []) (by kernel_rfl) (Nat.le_refl _) ((by exact trivial))
      ⟨fun a w R => ld_P (R.slot 4 rfl) (R.keep ow4 trivial) rfl rfl, fun a w R => ld_P (R.slot 5 rfl) (R.keep ow5 trivial) rfl rfl, fun a w R => ld_P (R.slot 6 rfl) (R.keep ow6 trivial) rfl rfl, fun a w R => ld_P (R.slot 7 rfl) (R.keep ow7 trivial) rfl rfl, fun a w R => bsP_4 (R.val 0) (R.val 1) (R.val 2) (R.val 3), fun a w R => cl_n (enter_at Try.func95) (R.dep 4) (fun g hg => allIn4 t1_.out hg), fun a w R => notb (R.val 5), fun a w R => asg (R.val 6), trivial⟩ (fun act_ W1 I => ?_)
    obtain ⟨gb14, ew14, lw14, ow14⟩ := I.new 4 rfl rfl rfl
    rw [I.act [(10, .agg #[.int .i64 a1, .int .i64 a2]), (11, .agg #[.int .i64 b1, .int .i64 b2]), (12, .agg #[.int .i64 c1, .int .i64 c2]), (13, .agg #[.int .i64 d1, .int .i64 d2]), (14, .slice (some ⟨gb14, 0, none⟩) 4 4), (15, .bool true), (16, .bool false), (9, .bool false)]
      ⟨I.val 0, I.val 1, I.val 2, I.val 3, ew14, I.val 5, I.val 6, I.val 7, trivial⟩ rfl]
    change W0.heap.size ≤ gb14 at lw14
    have sW1 : W0.heap.size ≤ W1.heap.size := I.below.size
    replace ow4 := I.keep ow4 trivial
    replace ow5 := I.keep ow5 trivial
    replace ow6 := I.keep ow6 trivial
    replace ow7 := I.keep ow7 trivial
    have hW1 : Bel w.heap.size w W1 := thenB hW0 I.below hW0.size
    clear ew14
    clear I
    simp only [List.foldl_cons, List.foldl_nil, List.setIfInBounds_toArray, List.set_cons_zero, List.set_cons_succ]
    rcases Bool.eq_false_or_eq_true (decide (a1 = b1 ∧ a2 = b2)) with t2 | t2
    · have t2_ := Lib.hid t2
      clear t2
      go_upto_region 2 with fail
      refine region_memo_f (B := W1.heap.size) (L := .val (.agg #[.int .i64 a1, .int .i64 a2]) :: .val (.agg #[.int .i64 b1, .int .i64 b2]) :: .val (.bool true) :: .val (.bool true) :: []) (by kernel_rfl) (Nat.le_refl _) ((by exact trivial))
        ⟨fun a w R => ld_P (R.slot 4 rfl) (R.keep ow4 trivial) rfl rfl, fun a w R => ld_P (R.slot 5 rfl) (R.keep ow5 trivial) rfl rfl, fun a w R => (e_eql_P (R.val 0) (R.val 1) ((fun w => (eq_Point _ _ _ _ w).trans (by rw [t2_.out])))), fun a w R => asg (R.val 2), trivial⟩ (fun act_ W2 I => ?_)
      rw [I.act [(17, .agg #[.int .i64 a1, .int .i64 a2]), (18, .agg #[.int .i64 b1, .int .i64 b2]), (19, .bool true), (9, .bool true)]
        ⟨I.val 0, I.val 1, I.val 2, I.val 3, trivial⟩ rfl]
      have sW2 : W1.heap.size ≤ W2.heap.size := I.below.size
      replace ow4 := I.keep ow4 trivial
      replace ow5 := I.keep ow5 trivial
      replace ow6 := I.keep ow6 trivial
      replace ow7 := I.keep ow7 trivial
      replace ow14 := I.keep ow14 trivial
      have hW2 : Bel w.heap.size w W2 := thenB hW1 I.below hW1.size
      clear I
      simp only [List.foldl_cons, List.foldl_nil, List.setIfInBounds_toArray, List.set_cons_zero, List.set_cons_succ]
      go_upto_region 4 with fail
      refine region_memo_f (B := W2.heap.size) (L := .val (.bool false) :: []) (by kernel_rfl) (Nat.le_refl _) ((by exact trivial))
        ⟨fun a w R => asc, trivial⟩ (fun act_ W3 I => ?_)
      rw [I.act [(8, .bool false)]
        ⟨I.val 0, trivial⟩ rfl]
      have sW3 : W2.heap.size ≤ W3.heap.size := I.below.size
      replace ow4 := I.keep ow4 trivial
      replace ow5 := I.keep ow5 trivial
      replace ow6 := I.keep ow6 trivial
      replace ow7 := I.keep ow7 trivial
      replace ow14 := I.keep ow14 trivial
      have hW3 : Bel w.heap.size w W3 := thenB hW2 I.below hW2.size
      clear I
      simp only [List.foldl_cons, List.foldl_nil, List.setIfInBounds_toArray, List.set_cons_zero, List.set_cons_succ]
      clear ow4 ow5 ow6 ow7 ow14
      go_wp2
      try simp only [setCell_drawn]
      refine bodyPost_ret (by first | (simp [results, Try.results101, go_sem]; done) | (simp [results, Try.results101, go_sem]; rfl)) rfl ⟨?_, hW3⟩
      refine retb_eq ?_; simp only [mtB, t1_.out, t2_.out]; rfl
    · have t2_ := Lib.hid t2
      clear t2
      go_upto_region 2 with fail
      refine region_memo_f (B := W1.heap.size) (L := .val (.agg #[.int .i64 a1, .int .i64 a2]) :: .val (.agg #[.int .i64 b1, .int .i64 b2]) :: .val (.bool false) :: .val (.bool false) :: []) (by kernel_rfl) (Nat.le_refl _) ((by exact trivial))
        ⟨fun a w R => ld_P (R.slot 4 rfl) (R.keep ow4 trivial) rfl rfl, fun a w R => ld_P (R.slot 5 rfl) (R.keep ow5 trivial) rfl rfl, fun a w R => (e_eql_P (R.val 0) (R.val 1) ((fun w => (eq_Point _ _ _ _ w).trans (by rw [t2_.out])))), fun a w R => asg (R.val 2), trivial⟩ (fun act_ W2 I => ?_)
      rw [I.act [(17, .agg #[.int .i64 a1, .int .i64 a2]), (18, .agg #[.int .i64 b1, .int .i64 b2]), (19, .bool false), (9, .bool false)]
        ⟨I.val 0, I.val 1, I.val 2, I.val 3, trivial⟩ rfl]
      have sW2 : W1.heap.size ≤ W2.heap.size := I.below.size
      replace ow4 := I.keep ow4 trivial
      replace ow5 := I.keep ow5 trivial
      replace ow6 := I.keep ow6 trivial
      replace ow7 := I.keep ow7 trivial
      replace ow14 := I.keep ow14 trivial
      have hW2 : Bel w.heap.size w W2 := thenB hW1 I.below hW1.size
      clear I
      simp only [List.foldl_cons, List.foldl_nil, List.setIfInBounds_toArray, List.set_cons_zero, List.set_cons_succ]
      rcases Bool.eq_false_or_eq_true (decide (c1 = d1 ∧ c2 = d2)) with t3 | t3
      · have t3_ := Lib.hid t3
        clear t3
        go_upto_region 3 with fail
        refine region_memo_f (B := W2.heap.size) (L := .val (.agg #[.int .i64 c1, .int .i64 c2]) :: .val (.agg #[.int .i64 d1, .int .i64 d2]) :: .val (.bool true) :: .val (.bool true) :: []) (by kernel_rfl) (Nat.le_refl _) ((by exact trivial))
          ⟨fun a w R => ld_P (R.slot 6 rfl) (R.keep ow6 trivial) rfl rfl, fun a w R => ld_P (R.slot 7 rfl) (R.keep ow7 trivial) rfl rfl, fun a w R => (e_eql_P (R.val 0) (R.val 1) ((fun w => (eq_Point _ _ _ _ w).trans (by rw [t3_.out])))), fun a w R => asg (R.val 2), trivial⟩ (fun act_ W3 I => ?_)
        rw [I.act [(20, .agg #[.int .i64 c1, .int .i64 c2]), (21, .agg #[.int .i64 d1, .int .i64 d2]), (22, .bool true), (9, .bool true)]
          ⟨I.val 0, I.val 1, I.val 2, I.val 3, trivial⟩ rfl]
        have sW3 : W2.heap.size ≤ W3.heap.size := I.below.size
        replace ow4 := I.keep ow4 trivial
        replace ow5 := I.keep ow5 trivial
        replace ow6 := I.keep ow6 trivial
        replace ow7 := I.keep ow7 trivial
        replace ow14 := I.keep ow14 trivial
        have hW3 : Bel w.heap.size w W3 := thenB hW2 I.below hW2.size
        clear I
        simp only [List.foldl_cons, List.foldl_nil, List.setIfInBounds_toArray, List.set_cons_zero, List.set_cons_succ]
        go_upto_region 4 with fail
        refine region_memo_f (B := W3.heap.size) (L := .val (.bool false) :: []) (by kernel_rfl) (Nat.le_refl _) ((by exact trivial))
          ⟨fun a w R => asc, trivial⟩ (fun act_ W4 I => ?_)
        rw [I.act [(8, .bool false)]
          ⟨I.val 0, trivial⟩ rfl]
        have sW4 : W3.heap.size ≤ W4.heap.size := I.below.size
        replace ow4 := I.keep ow4 trivial
        replace ow5 := I.keep ow5 trivial
        replace ow6 := I.keep ow6 trivial
        replace ow7 := I.keep ow7 trivial
        replace ow14 := I.keep ow14 trivial
        have hW4 : Bel w.heap.size w W4 := thenB hW3 I.below hW3.size
        clear I
        simp only [List.foldl_cons, List.foldl_nil, List.setIfInBounds_toArray, List.set_cons_zero, List.set_cons_succ]
        clear ow4 ow5 ow6 ow7 ow14
        go_wp2
        try simp only [setCell_drawn]
        refine bodyPost_ret (by first | (simp [results, Try.results101, go_sem]; done) | (simp [results, Try.results101, go_sem]; rfl)) rfl ⟨?_, hW4⟩
        refine retb_eq ?_; simp only [mtB, t1_.out, t2_.out, t3_.out]; rfl
      · have t3_ := Lib.hid t3
        clear t3
        go_upto_region 3 with fail
        refine region_memo_f (B := W2.heap.size) (L := .val (.agg #[.int .i64 c1, .int .i64 c2]) :: .val (.agg #[.int .i64 d1, .int .i64 d2]) :: .val (.bool false) :: .val (.bool false) :: []) (by kernel_rfl) (Nat.le_refl _) ((by exact trivial))
          ⟨fun a w R => ld_P (R.slot 6 rfl) (R.keep ow6 trivial) rfl rfl, fun a w R => ld_P (R.slot 7 rfl) (R.keep ow7 trivial) rfl rfl, fun a w R => (e_eql_P (R.val 0) (R.val 1) ((fun w => (eq_Point _ _ _ _ w).trans (by rw [t3_.out])))), fun a w R => asg (R.val 2), trivial⟩ (fun act_ W3 I => ?_)
        rw [I.act [(20, .agg #[.int .i64 c1, .int .i64 c2]), (21, .agg #[.int .i64 d1, .int .i64 d2]), (22, .bool false), (9, .bool false)]
          ⟨I.val 0, I.val 1, I.val 2, I.val 3, trivial⟩ rfl]
        have sW3 : W2.heap.size ≤ W3.heap.size := I.below.size
        replace ow4 := I.keep ow4 trivial
        replace ow5 := I.keep ow5 trivial
        replace ow6 := I.keep ow6 trivial
        replace ow7 := I.keep ow7 trivial
        replace ow14 := I.keep ow14 trivial
        have hW3 : Bel w.heap.size w W3 := thenB hW2 I.below hW2.size
        clear I
        simp only [List.foldl_cons, List.foldl_nil, List.setIfInBounds_toArray, List.set_cons_zero, List.set_cons_succ]
        rcases Bool.eq_false_or_eq_true (decide (a1 = c1 ∧ a2 = c2)) with t4 | t4
        · have t4_ := Lib.hid t4
          clear t4
          rcases Bool.eq_false_or_eq_true (decide (b1 = d1 ∧ b2 = d2)) with t5 | t5
          · have t5_ := Lib.hid t5
            clear t5
            go_upto_region 5 with fail
            refine region_memo_f (B := W3.heap.size) (L := .val (.agg #[.int .i64 a1, .int .i64 a2]) :: .val (.agg #[.int .i64 c1, .int .i64 c2]) :: .val (.bool true) :: .val (.bool true) :: .val (.agg #[.int .i64 b1, .int .i64 b2]) :: .val (.agg #[.int .i64 d1, .int .i64 d2]) :: .val (.bool true) :: .val (.bool true) :: .val (.bool true) :: []) (by kernel_rfl) (Nat.le_refl _) ((by exact trivial))
              ⟨fun a w R => ld_P (R.slot 4 rfl) (R.keep ow4 trivial) rfl rfl, fun a w R => ld_P (R.slot 6 rfl) (R.keep ow6 trivial) rfl rfl, fun a w R => (e_eql_P (R.val 0) (R.val 1) ((fun w => (eq_Point _ _ _ _ w).trans (by rw [t4_.out])))), fun a w R => mv (R.val 2), fun a w R => ld_P (R.slot 5 rfl) (R.keep ow5 trivial) rfl rfl, fun a w R => ld_P (R.slot 7 rfl) (R.keep ow7 trivial) rfl rfl, fun a w R => (e_eql_P (R.val 4) (R.val 5) ((fun w => (eq_Point _ _ _ _ w).trans (by rw [t5_.out])))), fun a w R => pickt (R.val 3) (R.val 6), fun a w R => asg (R.val 7), trivial⟩ (fun act_ W4 I => ?_)
            rw [I.act [(24, .agg #[.int .i64 a1, .int .i64 a2]), (25, .agg #[.int .i64 c1, .int .i64 c2]), (26, .bool true), (27, .bool true), (28, .agg #[.int .i64 b1, .int .i64 b2]), (29, .agg #[.int .i64 d1, .int .i64 d2]), (30, .bool true), (31, .bool true), (23, .bool true)]
              ⟨I.val 0, I.val 1, I.val 2, I.val 3, I.val 4, I.val 5, I.val 6, I.val 7, I.val 8, trivial⟩ rfl]
            have sW4 : W3.heap.size ≤ W4.heap.size := I.below.size
            replace ow4 := I.keep ow4 trivial
            replace ow5 := I.keep ow5 trivial
            replace ow6 := I.keep ow6 trivial
            replace ow7 := I.keep ow7 trivial
            replace ow14 := I.keep ow14 trivial
            have hW4 : Bel w.heap.size w W4 := thenB hW3 I.below hW3.size
            clear I
            simp only [List.foldl_cons, List.foldl_nil, List.setIfInBounds_toArray, List.set_cons_zero, List.set_cons_succ]
            go_upto_region 7 with fail
            refine region_memo_f (B := W4.heap.size) (L := .val (.bool true) :: []) (by kernel_rfl) (Nat.le_refl _) ((by exact trivial))
              ⟨fun a w R => asc, trivial⟩ (fun act_ W5 I => ?_)
            rw [I.act [(8, .bool true)]
              ⟨I.val 0, trivial⟩ rfl]
            have sW5 : W4.heap.size ≤ W5.heap.size := I.below.size
            replace ow4 := I.keep ow4 trivial
            replace ow5 := I.keep ow5 trivial
            replace ow6 := I.keep ow6 trivial
            replace ow7 := I.keep ow7 trivial
            replace ow14 := I.keep ow14 trivial
            have hW5 : Bel w.heap.size w W5 := thenB hW4 I.below hW4.size
            clear I
            simp only [List.foldl_cons, List.foldl_nil, List.setIfInBounds_toArray, List.set_cons_zero, List.set_cons_succ]
            clear ow4 ow5 ow6 ow7 ow14
            go_wp2
            try simp only [setCell_drawn]
            refine bodyPost_ret (by first | (simp [results, Try.results101, go_sem]; done) | (simp [results, Try.results101, go_sem]; rfl)) rfl ⟨?_, hW5⟩
            refine retb_eq ?_; simp only [mtB, t1_.out, t2_.out, t3_.out, t4_.out, t5_.out]; rfl
          · have t5_ := Lib.hid t5
            clear t5
            go_upto_region 5 with fail
            refine region_memo_f (B := W3.heap.size) (L := .val (.agg #[.int .i64 a1, .int .i64 a2]) :: .val (.agg #[.int .i64 c1, .int .i64 c2]) :: .val (.bool true) :: .val (.bool true) :: .val (.agg #[.int .i64 b1, .int .i64 b2]) :: .val (.agg #[.int .i64 d1, .int .i64 d2]) :: .val (.bool false) :: .val (.bool false) :: .val (.bool false) :: []) (by kernel_rfl) (Nat.le_refl _) ((by exact trivial))
              ⟨fun a w R => ld_P (R.slot 4 rfl) (R.keep ow4 trivial) rfl rfl, fun a w R => ld_P (R.slot 6 rfl) (R.keep ow6 trivial) rfl rfl, fun a w R => (e_eql_P (R.val 0) (R.val 1) ((fun w => (eq_Point _ _ _ _ w).trans (by rw [t4_.out])))), fun a w R => mv (R.val 2), fun a w R => ld_P (R.slot 5 rfl) (R.keep ow5 trivial) rfl rfl, fun a w R => ld_P (R.slot 7 rfl) (R.keep ow7 trivial) rfl rfl, fun a w R => (e_eql_P (R.val 4) (R.val 5) ((fun w => (eq_Point _ _ _ _ w).trans (by rw [t5_.out])))), fun a w R => pickt (R.val 3) (R.val 6), fun a w R => asg (R.val 7), trivial⟩ (fun act_ W4 I => ?_)
            rw [I.act [(24, .agg #[.int .i64 a1, .int .i64 a2]), (25, .agg #[.int .i64 c1, .int .i64 c2]), (26, .bool true), (27, .bool true), (28, .agg #[.int .i64 b1, .int .i64 b2]), (29, .agg #[.int .i64 d1, .int .i64 d2]), (30, .bool false), (31, .bool false), (23, .bool false)]
              ⟨I.val 0, I.val 1, I.val 2, I.val 3, I.val 4, I.val 5, I.val 6, I.val 7, I.val 8, trivial⟩ rfl]
            have sW4 : W3.heap.size ≤ W4.heap.size := I.below.size
            replace ow4 := I.keep ow4 trivial
            replace ow5 := I.keep ow5 trivial
            replace ow6 := I.keep ow6 trivial
            replace ow7 := I.keep ow7 trivial
            replace ow14 := I.keep ow14 trivial
            have hW4 : Bel w.heap.size w W4 := thenB hW3 I.below hW3.size
            clear I
            simp only [List.foldl_cons, List.foldl_nil, List.setIfInBounds_toArray, List.set_cons_zero, List.set_cons_succ]
            rcases Bool.eq_false_or_eq_true (decide (a1 = d1 ∧ a2 = d2)) with t6 | t6
            · have t6_ := Lib.hid t6
              clear t6
              rcases Bool.eq_false_or_eq_true (decide (b1 = c1 ∧ b2 = c2)) with t7 | t7
              · have t7_ := Lib.hid t7
                clear t7
                go_upto_region 6 with fail
                refine region_memo_f (B := W4.heap.size) (L := .val (.agg #[.int .i64 a1, .int .i64 a2]) :: .val (.agg #[.int .i64 d1, .int .i64 d2]) :: .val (.bool true) :: .val (.bool true) :: .val (.agg #[.int .i64 b1, .int .i64 b2]) :: .val (.agg #[.int .i64 c1, .int .i64 c2]) :: .val (.bool true) :: .val (.bool true) :: .val (.bool true) :: []) (by kernel_rfl) (Nat.le_refl _) ((by exact trivial))
                  ⟨fun a w R => ld_P (R.slot 4 rfl) (R.keep ow4 trivial) rfl rfl, fun a w R => ld_P (R.slot 7 rfl) (R.keep ow7 trivial) rfl rfl, fun a w R => (e_eql_P (R.val 0) (R.val 1) ((fun w => (eq_Point _ _ _ _ w).trans (by rw [t6_.out])))), fun a w R => mv (R.val 2), fun a w R => ld_P (R.slot 5 rfl) (R.keep ow5 trivial) rfl rfl, fun a w R => ld_P (R.slot 6 rfl) (R.keep ow6 trivial) rfl rfl, fun a w R => (e_eql_P (R.val 4) (R.val 5) ((fun w => (eq_Point _ _ _ _ w).trans (by rw [t7_.out])))), fun a w R => pickt (R.val 3) (R.val 6), fun a w R => asg (R.val 7), trivial⟩ (fun act_ W5 I => ?_)
                rw [I.act [(32, .agg #[.int .i64 a1, .int .i64 a2]), (33, .agg #[.int .i64 d1, .int .i64 d2]), (34, .bool true), (35, .bool true), (36, .agg #[.int .i64 b1, .int .i64 b2]), (37, .agg #[.int .i64 c1, .int .i64 c2]), (38, .bool true), (39, .bool true), (23, .bool true)]
                  ⟨I.val 0, I.val 1, I.val 2, I.val 3, I.val 4, I.val 5, I.val 6, I.val 7, I.val 8, trivial⟩ rfl]
                have sW5 : W4.heap.size ≤ W5.heap.size := I.below.size
                replace ow4 := I.keep ow4 trivial
                replace ow5 := I.keep ow5 trivial
                replace ow6 := I.keep ow6 trivial
                replace ow7 := I.keep ow7 trivial
                replace ow14 := I.keep ow14 trivial
                have hW5 : Bel w.heap.size w W5 := thenB hW4 I.below hW4.size
                clear I
                simp only [List.foldl_cons, List.foldl_nil, List.setIfInBounds_toArray, List.set_cons_zero, List.set_cons_succ]
                go_upto_region 7 with fail
                refine region_memo_f (B := W5.heap.size) (L := .val (.bool true) :: []) (by kernel_rfl) (Nat.le_refl _) ((by exact trivial))
                  ⟨fun a w R => asc, trivial⟩ (fun act_ W6 I => ?_)
                rw [I.act [(8, .bool true)]
                  ⟨I.val 0, trivial⟩ rfl]
                have sW6 : W5.heap.size ≤ W6.heap.size := I.below.size
                replace ow4 := I.keep ow4 trivial
                replace ow5 := I.keep ow5 trivial
                replace ow6 := I.keep ow6 trivial
                replace ow7 := I.keep ow7 trivial
                replace ow14 := I.keep ow14 trivial
                have hW6 : Bel w.heap.size w W6 := thenB hW5 I.below hW5.size
                clear I
                simp only [List.foldl_cons, List.foldl_nil, List.setIfInBounds_toArray, List.set_cons_zero, List.set_cons_succ]
                clear ow4 ow5 ow6 ow7 ow14
                go_wp2
                try simp only [setCell_drawn]
                refine bodyPost_ret (by first | (simp [results, Try.results101, go_sem]; done) | (simp [results, Try.results101, go_sem]; rfl)) rfl ⟨?_, hW6⟩
                refine retb_eq ?_; simp only [mtB, t1_.out, t2_.out, t3_.out, t4_.out, t5_.out, t6_.out, t7_.out]; rfl
              · have t7_ := Lib.hid t7
                clear t7
                go_upto_region 6 with fail
                refine region_memo_f (B := W4.heap.size) (L := .val (.agg #[.int .i64 a1, .int .i64 a2]) :: .val (.agg #[.int .i64 d1, .int .i64 d2]) :: .val (.bool true) :: .val (.bool true) :: .val (.agg #[.int .i64 b1, .int .i64 b2]) :: .val (.agg #[.int .i64 c1, .int .i64 c2]) :: .val (.bool false) :: .val (.bool false) :: .val (.bool false) :: []) (by kernel_rfl) (Nat.le_refl _) ((by exact trivial))
                  ⟨fun a w R => ld_P (R.slot 4 rfl) (R.keep ow4 trivial) rfl rfl, fun a w R => ld_P (R.slot 7 rfl) (R.keep ow7 trivial) rfl rfl, fun a w R => (e_eql_P (R.val 0) (R.val 1) ((fun w => (eq_Point _ _ _ _ w).trans (by rw [t6_.out])))), fun a w R => mv (R.val 2), fun a w R => ld_P (R.slot 5 rfl) (R.keep ow5 trivial) rfl rfl, fun a w R => ld_P (R.slot 6 rfl) (R.keep ow6 trivial) rfl rfl, fun a w R => (e_eql_P (R.val 4) (R.val 5) ((fun w => (eq_Point _ _ _ _ w).trans (by rw [t7_.out])))), fun a w R => pickt (R.val 3) (R.val 6), fun a w R => asg (R.val 7), trivial⟩ (fun act_ W5 I => ?_)
                rw [I.act [(32, .agg #[.int .i64 a1, .int .i64 a2]), (33, .agg #[.int .i64 d1, .int .i64 d2]), (34, .bool true), (35, .bool true), (36, .agg #[.int .i64 b1, .int .i64 b2]), (37, .agg #[.int .i64 c1, .int .i64 c2]), (38, .bool false), (39, .bool false), (23, .bool false)]
                  ⟨I.val 0, I.val 1, I.val 2, I.val 3, I.val 4, I.val 5, I.val 6, I.val 7, I.val 8, trivial⟩ rfl]
                have sW5 : W4.heap.size ≤ W5.heap.size := I.below.size
                replace ow4 := I.keep ow4 trivial
                replace ow5 := I.keep ow5 trivial
                replace ow6 := I.keep ow6 trivial
                replace ow7 := I.keep ow7 trivial
                replace ow14 := I.keep ow14 trivial
                have hW5 : Bel w.heap.size w W5 := thenB hW4 I.below hW4.size
                clear I
                simp only [List.foldl_cons, List.foldl_nil, List.setIfInBounds_toArray, List.set_cons_zero, List.set_cons_succ]
                rcases Bool.eq_false_or_eq_true (onB a1 a2 c1 c2 d1 d2) with t8 | t8
                · have t8_ := Lib.hid t8
                  clear t8
                  go_upto_region 8 with fail
                  refine region_memo_f (B := W5.heap.size) (L := .val (.agg #[.int .i64 a1, .int .i64 a2]) :: .val (.agg #[.int .i64 c1, .int .i64 c2]) :: .val (.agg #[.int .i64 d1, .int .i64 d2]) :: .val (.bool true) :: .val (.bool true) :: []) (by kernel_rfl) (Nat.le_refl _) ((by exact trivial))
                    ⟨fun a w R => ld_P (R.slot 4 rfl) (R.keep ow4 trivial) rfl rfl, fun a w R => ld_P (R.slot 6 rfl) (R.keep ow6 trivial) rfl rfl, fun a w R => ld_P (R.slot 7 rfl) (R.keep ow7 trivial) rfl rfl, fun a w R => cl_ttt (enter_at Try.func99) (R.val 0) (R.val 1) (R.val 2) (On_is t8_.out _), fun a w R => asg (R.val 3), trivial⟩ (fun act_ W6 I => ?_)
                  rw [I.act [(41, .agg #[.int .i64 a1, .int .i64 a2]), (42, .agg #[.int .i64 c1, .int .i64 c2]), (43, .agg #[.int .i64 d1, .int .i64 d2]), (44, .bool true), (40, .bool true)]
                    ⟨I.val 0, I.val 1, I.val 2, I.val 3, I.val 4, trivial⟩ rfl]
                  have sW6 : W5.heap.size ≤ W6.heap.size := I.below.size
                  replace ow4 := I.keep ow4 trivial
                  replace ow5 := I.keep ow5 trivial
                  replace ow6 := I.keep ow6 trivial
                  replace ow7 := I.keep ow7 trivial
                  replace ow14 := I.keep ow14 trivial
                  have hW6 : Bel w.heap.size w W6 := thenB hW5 I.below hW5.size
                  clear I
                  simp only [List.foldl_cons, List.foldl_nil, List.setIfInBounds_toArray, List.set_cons_zero, List.set_cons_succ]
                  go_upto_region 12 with fail
                  refine region_memo_f (B := W6.heap.size) (L := .val (.bool true) :: []) (by kernel_rfl) (Nat.le_refl _) ((by exact trivial))
                    ⟨fun a w R => asc, trivial⟩ (fun act_ W7 I => ?_)
                  rw [I.act [(8, .bool true)]
                    ⟨I.val 0, trivial⟩ rfl]
                  have sW7 : W6.heap.size ≤ W7.heap.size := I.below.size
                  replace ow4 := I.keep ow4 trivial
                  replace ow5 := I.keep ow5 trivial
                  replace ow6 := I.keep ow6 trivial
                  replace ow7 := I.keep ow7 trivial
                  replace ow14 := I.keep ow14 trivial
                  have hW7 : Bel w.heap.size w W7 := thenB hW6 I.below hW6.size
                  clear I
                  simp only [List.foldl_cons, List.foldl_nil, List.setIfInBounds_toArray, List.set_cons_zero, List.set_cons_succ]
                  clear ow4 ow5 ow6 ow7 ow14
                  go_wp2
                  try simp only [setCell_drawn]
                  refine bodyPost_ret (by first | (simp [results, Try.results101, go_sem]; done) | (simp [results, Try.results101, go_sem]; rfl)) rfl ⟨?_, hW7⟩
                  refine retb_eq ?_; simp only [mtB, t1_.out, t2_.out, t3_.out, t4_.out, t5_.out, t6_.out, t7_.out, t8_.out]; rfl
                · have t8_ := Lib.hid t8
                  clear t8
                  go_upto_region 8 with fail
                  refine region_memo_f (B := W5.heap.size) (L := .val (.agg #[.int .i64 a1, .int .i64 a2]) :: .val (.agg #[.int .i64 c1, .int .i64 c2]) :: .val (.agg #[.int .i64 d1, .int .i64 d2]) :: .val (.bool false) :: .val (.bool false) :: []) (by kernel_rfl) (Nat.le_refl _) ((by exact trivial))
                    ⟨fun a w R => ld_P (R.slot 4 rfl) (R.keep ow4 trivial) rfl rfl, fun a w R => ld_P (R.slot 6 rfl) (R.keep ow6 trivial) rfl rfl, fun a w R => ld_P (R.slot 7 rfl) (R.keep ow7 trivial) rfl rfl, fun a w R => cl_ttt (enter_at Try.func99) (R.val 0) (R.val 1) (R.val 2) (On_is t8_.out _), fun a w R => asg (R.val 3), trivial⟩ (fun act_ W6 I => ?_)
                  rw [I.act [(41, .agg #[.int .i64 a1, .int .i64 a2]), (42, .agg #[.int .i64 c1, .int .i64 c2]), (43, .agg #[.int .i64 d1, .int .i64 d2]), (44, .bool false), (40, .bool false)]
                    ⟨I.val 0, I.val 1, I.val 2, I.val 3, I.val 4, trivial⟩ rfl]
                  have sW6 : W5.heap.size ≤ W6.heap.size := I.below.size
                  replace ow4 := I.keep ow4 trivial
                  replace ow5 := I.keep ow5 trivial
                  replace ow6 := I.keep ow6 trivial
                  replace ow7 := I.keep ow7 trivial
                  replace ow14 := I.keep ow14 trivial
                  have hW6 : Bel w.heap.size w W6 := thenB hW5 I.below hW5.size
                  clear I
                  simp only [List.foldl_cons, List.foldl_nil, List.setIfInBounds_toArray, List.set_cons_zero, List.set_cons_succ]
                  rcases Bool.eq_false_or_eq_true (onB b1 b2 c1 c2 d1 d2) with t9 | t9
                  · have t9_ := Lib.hid t9
                    clear t9
                    go_upto_region 9 with fail
                    refine region_memo_f (B := W6.heap.size) (L := .val (.agg #[.int .i64 b1, .int .i64 b2]) :: .val (.agg #[.int .i64 c1, .int .i64 c2]) :: .val (.agg #[.int .i64 d1, .int .i64 d2]) :: .val (.bool true) :: .val (.bool true) :: []) (by kernel_rfl) (Nat.le_refl _) ((by exact trivial))
                      ⟨fun a w R => ld_P (R.slot 5 rfl) (R.keep ow5 trivial) rfl rfl, fun a w R => ld_P (R.slot 6 rfl) (R.keep ow6 trivial) rfl rfl, fun a w R => ld_P (R.slot 7 rfl) (R.keep ow7 trivial) rfl rfl, fun a w R => cl_ttt (enter_at Try.func99) (R.val 0) (R.val 1) (R.val 2) (On_is t9_.out _), fun a w R => asg (R.val 3), trivial⟩ (fun act_ W7 I => ?_)
                    rw [I.act [(45, .agg #[.int .i64 b1, .int .i64 b2]), (46, .agg #[.int .i64 c1, .int .i64 c2]), (47, .agg #[.int .i64 d1, .int .i64 d2]), (48, .bool true), (40, .bool true)]
                      ⟨I.val 0, I.val 1, I.val 2, I.val 3, I.val 4, trivial⟩ rfl]
                    have sW7 : W6.heap.size ≤ W7.heap.size := I.below.size
                    replace ow4 := I.keep ow4 trivial
                    replace ow5 := I.keep ow5 trivial
                    replace ow6 := I.keep ow6 trivial
                    replace ow7 := I.keep ow7 trivial
                    replace ow14 := I.keep ow14 trivial
                    have hW7 : Bel w.heap.size w W7 := thenB hW6 I.below hW6.size
                    clear I
                    simp only [List.foldl_cons, List.foldl_nil, List.setIfInBounds_toArray, List.set_cons_zero, List.set_cons_succ]
                    go_upto_region 12 with fail
                    refine region_memo_f (B := W7.heap.size) (L := .val (.bool true) :: []) (by kernel_rfl) (Nat.le_refl _) ((by exact trivial))
                      ⟨fun a w R => asc, trivial⟩ (fun act_ W8 I => ?_)
                    rw [I.act [(8, .bool true)]
                      ⟨I.val 0, trivial⟩ rfl]
                    have sW8 : W7.heap.size ≤ W8.heap.size := I.below.size
                    replace ow4 := I.keep ow4 trivial
                    replace ow5 := I.keep ow5 trivial
                    replace ow6 := I.keep ow6 trivial
                    replace ow7 := I.keep ow7 trivial
                    replace ow14 := I.keep ow14 trivial
                    have hW8 : Bel w.heap.size w W8 := thenB hW7 I.below hW7.size
                    clear I
                    simp only [List.foldl_cons, List.foldl_nil, List.setIfInBounds_toArray, List.set_cons_zero, List.set_cons_succ]
                    clear ow4 ow5 ow6 ow7 ow14
                    go_wp2
                    try simp only [setCell_drawn]
                    refine bodyPost_ret (by first | (simp [results, Try.results101, go_sem]; done) | (simp [results, Try.results101, go_sem]; rfl)) rfl ⟨?_, hW8⟩
                    refine retb_eq ?_; simp only [mtB, t1_.out, t2_.out, t3_.out, t4_.out, t5_.out, t6_.out, t7_.out, t8_.out, t9_.out]; rfl
                  · have t9_ := Lib.hid t9
                    clear t9
                    go_upto_region 9 with fail
                    refine region_memo_f (B := W6.heap.size) (L := .val (.agg #[.int .i64 b1, .int .i64 b2]) :: .val (.agg #[.int .i64 c1, .int .i64 c2]) :: .val (.agg #[.int .i64 d1, .int .i64 d2]) :: .val (.bool false) :: .val (.bool false) :: []) (by kernel_rfl) (Nat.le_refl _) ((by exact trivial))
                      ⟨fun a w R => ld_P (R.slot 5 rfl) (R.keep ow5 trivial) rfl rfl, fun a w R => ld_P (R.slot 6 rfl) (R.keep ow6 trivial) rfl rfl, fun a w R => ld_P (R.slot 7 rfl) (R.keep ow7 trivial) rfl rfl, fun a w R => cl_ttt (enter_at Try.func99) (R.val 0) (R.val 1) (R.val 2) (On_is t9_.out _), fun a w R => asg (R.val 3), trivial⟩ (fun act_ W7 I => ?_)
                    rw [I.act [(45, .agg #[.int .i64 b1, .int .i64 b2]), (46, .agg #[.int .i64 c1, .int .i64 c2]), (47, .agg #[.int .i64 d1, .int .i64 d2]), (48, .bool false), (40, .bool false)]
                      ⟨I.val 0, I.val 1, I.val 2, I.val 3, I.val 4, trivial⟩ rfl]
                    have sW7 : W6.heap.size ≤ W7.heap.size := I.below.size
                    replace ow4 := I.keep ow4 trivial
                    replace ow5 := I.keep ow5 trivial
                    replace ow6 := I.keep ow6 trivial
                    replace ow7 := I.keep ow7 trivial
                    replace ow14 := I.keep ow14 trivial
                    have hW7 : Bel w.heap.size w W7 := thenB hW6 I.below hW6.size
                    clear I
                    simp only [List.foldl_cons, List.foldl_nil, List.setIfInBounds_toArray, List.set_cons_zero, List.set_cons_succ]
                    rcases Bool.eq_false_or_eq_true (onB c1 c2 a1 a2 b1 b2) with t10 | t10
                    · have t10_ := Lib.hid t10
                      clear t10
                      go_upto_region 10 with fail
                      refine region_memo_f (B := W7.heap.size) (L := .val (.agg #[.int .i64 c1, .int .i64 c2]) :: .val (.agg #[.int .i64 a1, .int .i64 a2]) :: .val (.agg #[.int .i64 b1, .int .i64 b2]) :: .val (.bool true) :: .val (.bool true) :: []) (by kernel_rfl) (Nat.le_refl _) ((by exact trivial))
                        ⟨fun a w R => ld_P (R.slot 6 rfl) (R.keep ow6 trivial) rfl rfl, fun a w R => ld_P (R.slot 4 rfl) (R.keep ow4 trivial) rfl rfl, fun a w R => ld_P (R.slot 5 rfl) (R.keep ow5 trivial) rfl rfl, fun a w R => cl_ttt (enter_at Try.func99) (R.val 0) (R.val 1) (R.val 2) (On_is t10_.out _), fun a w R => asg (R.val 3), trivial⟩ (fun act_ W8 I => ?_)
                      rw [I.act [(49, .agg #[.int .i64 c1, .int .i64 c2]), (50, .agg #[.int .i64 a1, .int .i64 a2]), (51, .agg #[.int .i64 b1, .int .i64 b2]), (52, .bool true), (40, .bool true)]
                        ⟨I.val 0, I.val 1, I.val 2, I.val 3, I.val 4, trivial⟩ rfl]
                      have sW8 : W7.heap.size ≤ W8.heap.size := I.below.size
                      replace ow4 := I.keep ow4 trivial
                      replace ow5 := I.keep ow5 trivial
                      replace ow6 := I.keep ow6 trivial
                      replace ow7 := I.keep ow7 trivial
                      replace ow14 := I.keep ow14 trivial
                      have hW8 : Bel w.heap.size w W8 := thenB hW7 I.below hW7.size
                      clear I
                      simp only [List.foldl_cons, List.foldl_nil, List.setIfInBounds_toArray, List.set_cons_zero, List.set_cons_succ]
                      go_upto_region 12 with fail
                      refine region_memo_f (B := W8.heap.size) (L := .val (.bool true) :: []) (by kernel_rfl) (Nat.le_refl _) ((by exact trivial))
                        ⟨fun a w R => asc, trivial⟩ (fun act_ W9 I => ?_)
                      rw [I.act [(8, .bool true)]
                        ⟨I.val 0, trivial⟩ rfl]
                      have sW9 : W8.heap.size ≤ W9.heap.size := I.below.size
                      replace ow4 := I.keep ow4 trivial
                      replace ow5 := I.keep ow5 trivial
                      replace ow6 := I.keep ow6 trivial
                      replace ow7 := I.keep ow7 trivial
                      replace ow14 := I.keep ow14 trivial
                      have hW9 : Bel w.heap.size w W9 := thenB hW8 I.below hW8.size
                      clear I
                      simp only [List.foldl_cons, List.foldl_nil, List.setIfInBounds_toArray, List.set_cons_zero, List.set_cons_succ]
                      clear ow4 ow5 ow6 ow7 ow14
                      go_wp2
                      try simp only [setCell_drawn]
                      refine bodyPost_ret (by first | (simp [results, Try.results101, go_sem]; done) | (simp [results, Try.results101, go_sem]; rfl)) rfl ⟨?_, hW9⟩
                      refine retb_eq ?_; simp only [mtB, t1_.out, t2_.out, t3_.out, t4_.out, t5_.out, t6_.out, t7_.out, t8_.out, t9_.out, t10_.out]; rfl
                    · have t10_ := Lib.hid t10
                      clear t10
                      go_upto_region 10 with fail
                      refine region_memo_f (B := W7.heap.size) (L := .val (.agg #[.int .i64 c1, .int .i64 c2]) :: .val (.agg #[.int .i64 a1, .int .i64 a2]) :: .val (.agg #[.int .i64 b1, .int .i64 b2]) :: .val (.bool false) :: .val (.bool false) :: []) (by kernel_rfl) (Nat.le_refl _) ((by exact trivial))
                        ⟨fun a w R => ld_P (R.slot 6 rfl) (R.keep ow6 trivial) rfl rfl, fun a w R => ld_P (R.slot 4 rfl) (R.keep ow4 trivial) rfl rfl, fun a w R => ld_P (R.slot 5 rfl) (R.keep ow5 trivial) rfl rfl, fun a w R => cl_ttt (enter_at Try.func99) (R.val 0) (R.val 1) (R.val 2) (On_is t10_.out _), fun a w R => asg (R.val 3), trivial⟩ (fun act_ W8 I => ?_)
                      rw [I.act [(49, .agg #[.int .i64 c1, .int .i64 c2]), (50, .agg #[.int .i64 a1, .int .i64 a2]), (51, .agg #[.int .i64 b1, .int .i64 b2]), (52, .bool false), (40, .bool false)]
                        ⟨I.val 0, I.val 1, I.val 2, I.val 3, I.val 4, trivial⟩ rfl]
                      have sW8 : W7.heap.size ≤ W8.heap.size := I.below.size
                      replace ow4 := I.keep ow4 trivial
                      replace ow5 := I.keep ow5 trivial
                      replace ow6 := I.keep ow6 trivial
                      replace ow7 := I.keep ow7 trivial
                      replace ow14 := I.keep ow14 trivial
                      have hW8 : Bel w.heap.size w W8 := thenB hW7 I.below hW7.size
                      clear I
                      simp only [List.foldl_cons, List.foldl_nil, List.setIfInBounds_toArray, List.set_cons_zero, List.set_cons_succ]
                      rcases Bool.eq_false_or_eq_true (onB d1 d2 a1 a2 b1 b2) with t11 | t11
                      · have t11_ := Lib.hid t11
                        clear t11
                        go_upto_region 11 with fail
                        refine region_memo_f (B := W8.heap.size) (L := .val (.agg #[.int .i64 d1, .int .i64 d2]) :: .val (.agg #[.int .i64 a1, .int .i64 a2]) :: .val (.agg #[.int .i64 b1, .int .i64 b2]) :: .val (.bool true) :: .val (.bool true) :: []) (by kernel_rfl) (Nat.le_refl _) ((by exact trivial))
                          ⟨fun a w R => ld_P (R.slot 7 rfl) (R.keep ow7 trivial) rfl rfl, fun a w R => ld_P (R.slot 4 rfl) (R.keep ow4 trivial) rfl rfl, fun a w R => ld_P (R.slot 5 rfl) (R.keep ow5 trivial) rfl rfl, fun a w R => cl_ttt (enter_at Try.func99) (R.val 0) (R.val 1) (R.val 2) (On_is t11_.out _), fun a w R => asg (R.val 3), trivial⟩ (fun act_ W9 I => ?_)
                        rw [I.act [(53, .agg #[.int .i64 d1, .int .i64 d2]), (54, .agg #[.int .i64 a1, .int .i64 a2]), (55, .agg #[.int .i64 b1, .int .i64 b2]), (56, .bool true), (40, .bool true)]
                          ⟨I.val 0, I.val 1, I.val 2, I.val 3, I.val 4, trivial⟩ rfl]
                        have sW9 : W8.heap.size ≤ W9.heap.size := I.below.size
                        replace ow4 := I.keep ow4 trivial
                        replace ow5 := I.keep ow5 trivial
                        replace ow6 := I.keep ow6 trivial
                        replace ow7 := I.keep ow7 trivial
                        replace ow14 := I.keep ow14 trivial
                        have hW9 : Bel w.heap.size w W9 := thenB hW8 I.below hW8.size
                        clear I
                        simp only [List.foldl_cons, List.foldl_nil, List.setIfInBounds_toArray, List.set_cons_zero, List.set_cons_succ]
                        go_upto_region 12 with fail
                        refine region_memo_f (B := W9.heap.size) (L := .val (.bool true) :: []) (by kernel_rfl) (Nat.le_refl _) ((by exact trivial))
                          ⟨fun a w R => asc, trivial⟩ (fun act_ W10 I => ?_)
                        rw [I.act [(8, .bool true)]
                          ⟨I.val 0, trivial⟩ rfl]
                        have sW10 : W9.heap.size ≤ W10.heap.size := I.below.size
                        replace ow4 := I.keep ow4 trivial
                        replace ow5 := I.keep ow5 trivial
                        replace ow6 := I.keep ow6 trivial
                        replace ow7 := I.keep ow7 trivial
                        replace ow14 := I.keep ow14 trivial
                        have hW10 : Bel w.heap.size w W10 := thenB hW9 I.below hW9.size
                        clear I
                        simp only [List.foldl_cons, List.foldl_nil, List.setIfInBounds_toArray, List.set_cons_zero, List.set_cons_succ]
                        clear ow4 ow5 ow6 ow7 ow14
                        go_wp2
                        try simp only [setCell_drawn]
                        refine bodyPost_ret (by first | (simp [results, Try.results101, go_sem]; done) | (simp [results, Try.results101, go_sem]; rfl)) rfl ⟨?_, hW10⟩
                        refine retb_eq ?_; simp only [mtB, t1_.out, t2_.out, t3_.out, t4_.out, t5_.out, t6_.out, t7_.out, t8_.out, t9_.out, t10_.out, t11_.out]; rfl
                      · have t11_ := Lib.hid t11
                        clear t11
                        go_upto_region 11 with fail
                        refine region_memo_f (B := W8.heap.size) (L := .val (.agg #[.int .i64 d1, .int .i64 d2]) :: .val (.agg #[.int .i64 a1, .int .i64 a2]) :: .val (.agg #[.int .i64 b1, .int .i64 b2]) :: .val (.bool false) :: .val (.bool false) :: []) (by kernel_rfl) (Nat.le_refl _) ((by exact trivial))
                          ⟨fun a w R => ld_P (R.slot 7 rfl) (R.keep ow7 trivial) rfl rfl, fun a w R => ld_P (R.slot 4 rfl) (R.keep ow4 trivial) rfl rfl, fun a w R => ld_P (R.slot 5 rfl) (R.keep ow5 trivial) rfl rfl, fun a w R => cl_ttt (enter_at Try.func99) (R.val 0) (R.val 1) (R.val 2) (On_is t11_.out _), fun a w R => asg (R.val 3), trivial⟩ (fun act_ W9 I => ?_)
                        rw [I.act [(53, .agg #[.int .i64 d1, .int .i64 d2]), (54, .agg #[.int .i64 a1, .int .i64 a2]), (55, .agg #[.int .i64 b1, .int .i64 b2]), (56, .bool false), (40, .bool false)]
                          ⟨I.val 0, I.val 1, I.val 2, I.val 3, I.val 4, trivial⟩ rfl]
                        have sW9 : W8.heap.size ≤ W9.heap.size := I.below.size
                        replace ow4 := I.keep ow4 trivial
                        replace ow5 := I.keep ow5 trivial
                        replace ow6 := I.keep ow6 trivial
                        replace ow7 := I.keep ow7 trivial
                        replace ow14 := I.keep ow14 trivial
                        have hW9 : Bel w.heap.size w W9 := thenB hW8 I.below hW8.size
                        clear I
                        simp only [List.foldl_cons, List.foldl_nil, List.setIfInBounds_toArray, List.set_cons_zero, List.set_cons_succ]
                        rcases Bool.eq_false_or_eq_true (ptB a1 a2 b1 b2 c1 c2 d1 d2) with t12 | t12
                        · have t12_ := Lib.hid t12
                          clear t12
                          rcases Bool.eq_false_or_eq_true (ptB c1 c2 d1 d2 a1 a2 b1 b2) with t13 | t13
                          · have t13_ := Lib.hid t13
                            clear t13
                            go_upto_region 13 with fail
                            refine region_memo_f (B := W9.heap.size) (L := .val (.agg #[.int .i64 a1, .int .i64 a2]) :: .val (.agg #[.int .i64 b1, .int .i64 b2]) :: .val (.agg #[.int .i64 c1, .int .i64 c2]) :: .val (.agg #[.int .i64 d1, .int .i64 d2]) :: .val (.bool true) :: .val (.bool true) :: .val (.agg #[.int .i64 c1, .int .i64 c2]) :: .val (.agg #[.int .i64 d1, .int .i64 d2]) :: .val (.agg #[.int .i64 a1, .int .i64 a2]) :: .val (.agg #[.int .i64 b1, .int .i64 b2]) :: .val (.bool true) :: .val (.bool true) :: .val (.bool true) :: []) (by kernel_rfl) (Nat.le_refl _) ((by exact trivial))
                              ⟨fun a w R => ld_P (R.slot 4 rfl) (R.keep ow4 trivial) rfl rfl, fun a w R => ld_P (R.slot 5 rfl) (R.keep ow5 trivial) rfl rfl, fun a w R => ld_P (R.slot 6 rfl) (R.keep ow6 trivial) rfl rfl, fun a w R => ld_P (R.slot 7 rfl) (R.keep ow7 trivial) rfl rfl, fun a w R => cl_tttt (enter_at Try.func115) (R.val 0) (R.val 1) (R.val 2) (R.val 3) (parts_is t12_.out (in4_iff.2 ⟨(in4_iff.1 t1_.out).1, (in4_iff.1 t1_.out).2.1, (in4_iff.1 t1_.out).2.2.1, (in4_iff.1 t1_.out).2.2.2⟩) _), fun a w R => mv (R.val 4), fun a w R => ld_P (R.slot 6 rfl) (R.keep ow6 trivial) rfl rfl, fun a w R => ld_P (R.slot 7 rfl) (R.keep ow7 trivial) rfl rfl, fun a w R => ld_P (R.slot 4 rfl) (R.keep ow4 trivial) rfl rfl, fun a w R => ld_P (R.slot 5 rfl) (R.keep ow5 trivial) rfl rfl, fun a w R => cl_tttt (enter_at Try.func115) (R.val 6) (R.val 7) (R.val 8) (R.val 9) (parts_is t13_.out (in4_iff.2 ⟨(in4_iff.1 t1_.out).2.2.1, (in4_iff.1 t1_.out).2.2.2, (in4_iff.1 t1_.out).1, (in4_iff.1 t1_.out).2.1⟩) _), fun a w R => pickt (R.val 5) (R.val 10), fun a w R => asg (R.val 11), trivial⟩ (fun act_ W10 I => ?_)
                            rw [I.act [(57, .agg #[.int .i64 a1, .int .i64 a2]), (58, .agg #[.int .i64 b1, .int .i64 b2]), (59, .agg #[.int .i64 c1, .int .i64 c2]), (60, .agg #[.int .i64 d1, .int .i64 d2]), (61, .bool true), (62, .bool true), (63, .agg #[.int .i64 c1, .int .i64 c2]), (64, .agg #[.int .i64 d1, .int .i64 d2]), (65, .agg #[.int .i64 a1, .int .i64 a2]), (66, .agg #[.int .i64 b1, .int .i64 b2]), (67, .bool true), (68, .bool true), (8, .bool true)]
                              ⟨I.val 0, I.val 1, I.val 2, I.val 3, I.val 4, I.val 5, I.val 6, I.val 7, I.val 8, I.val 9, I.val 10, I.val 11, I.val 12, trivial⟩ rfl]
                            have sW10 : W9.heap.size ≤ W10.heap.size := I.below.size
                            replace ow4 := I.keep ow4 trivial
                            replace ow5 := I.keep ow5 trivial
                            replace ow6 := I.keep ow6 trivial
                            replace ow7 := I.keep ow7 trivial
                            replace ow14 := I.keep ow14 trivial
                            have hW10 : Bel w.heap.size w W10 := thenB hW9 I.below hW9.size
                            clear I
                            simp only [List.foldl_cons, List.foldl_nil, List.setIfInBounds_toArray, List.set_cons_zero, List.set_cons_succ]
                            clear ow4 ow5 ow6 ow7 ow14
                            go_wp2
                            try simp only [setCell_drawn]
                            refine bodyPost_ret (by first | (simp [results, Try.results101, go_sem]; done) | (simp [results, Try.results101, go_sem]; rfl)) rfl ⟨?_, hW10⟩
                            refine retb_eq ?_; simp only [mtB, t1_.out, t2_.out, t3_.out, t4_.out, t5_.out, t6_.out, t7_.out, t8_.out, t9_.out, t10_.out, t11_.out, t12_.out, t13_.out]; rfl
                          · have t13_ := Lib.hid t13
                            clear t13
                            go_upto_region 13 with fail
                            refine region_memo_f (B := W9.heap.size) (L := .val (.agg #[.int .i64 a1, .int .i64 a2]) :: .val (.agg #[.int .i64 b1, .int .i64 b2]) :: .val (.agg #[.int .i64 c1, .int .i64 c2]) :: .val (.agg #[.int .i64 d1, .int .i64 d2]) :: .val (.bool true) :: .val (.bool true) :: .val (.agg #[.int .i64 c1, .int .i64 c2]) :: .val (.agg #[.int .i64 d1, .int .i64 d2]) :: .val (.agg #[.int .i64 a1, .int .i64 a2]) :: .val (.agg #[.int .i64 b1, .int .i64 b2]) :: .val (.bool false) :: .val (.bool false) :: .val (.bool false) :: []) (by kernel_rfl) (Nat.le_refl _) ((by exact trivial))
                              ⟨fun a w R => ld_P (R.slot 4 rfl) (R.keep ow4 trivial) rfl rfl, fun a w R => ld_P (R.slot 5 rfl) (R.keep ow5 trivial) rfl rfl, fun a w R => ld_P (R.slot 6 rfl) (R.keep ow6 trivial) rfl rfl, fun a w R => ld_P (R.slot 7 rfl) (R.keep ow7 trivial) rfl rfl, fun a w R => cl_tttt (enter_at Try.func115) (R.val 0) (R.val 1) (R.val 2) (R.val 3) (parts_is t12_.out (in4_iff.2 ⟨(in4_iff.1 t1_.out).1, (in4_iff.1 t1_.out).2.1, (in4_iff.1 t1_.out).2.2.1, (in4_iff.1 t1_.out).2.2.2⟩) _), fun a w R => mv (R.val 4), fun a w R => ld_P (R.slot 6 rfl) (R.keep ow6 trivial) rfl rfl, fun a w R => ld_P (R.slot 7 rfl) (R.keep ow7 trivial) rfl rfl, fun a w R => ld_P (R.slot 4 rfl) (R.keep ow4 trivial) rfl rfl, fun a w R => ld_P (R.slot 5 rfl) (R.keep ow5 trivial) rfl rfl, fun a w R => cl_tttt (enter_at Try.func115) (R.val 6) (R.val 7) (R.val 8) (R.val 9) (parts_is t13_.out (in4_iff.2 ⟨(in4_iff.1 t1_.out).2.2.1, (in4_iff.1 t1_.out).2.2.2, (in4_iff.1 t1_.out).1, (in4_iff.1 t1_.out).2.1⟩) _), fun a w R => pickt (R.val 5) (R.val 10), fun a w R => asg (R.val 11), trivial⟩ (fun act_ W10 I => ?_)
                            rw [I.act [(57, .agg #[.int .i64 a1, .int .i64 a2]), (58, .agg #[.int .i64 b1, .int .i64 b2]), (59, .agg #[.int .i64 c1, .int .i64 c2]), (60, .agg #[.int .i64 d1, .int .i64 d2]), (61, .bool true), (62, .bool true), (63, .agg #[.int .i64 c1, .int .i64 c2]), (64, .agg #[.int .i64 d1, .int .i64 d2]), (65, .agg #[.int .i64 a1, .int .i64 a2]), (66, .agg #[.int .i64 b1, .int .i64 b2]), (67, .bool false), (68, .bool false), (8, .bool false)]
                              ⟨I.val 0, I.val 1, I.val 2, I.val 3, I.val 4, I.val 5, I.val 6, I.val 7, I.val 8, I.val 9, I.val 10, I.val 11, I.val 12, trivial⟩ rfl]
                            have sW10 : W9.heap.size ≤ W10.heap.size := I.below.size
                            replace ow4 := I.keep ow4 trivial
                            replace ow5 := I.keep ow5 trivial
                            replace ow6 := I.keep ow6 trivial
                            replace ow7 := I.keep ow7 trivial
                            replace ow14 := I.keep ow14 trivial
                            have hW10 : Bel w.heap.size w W10 := thenB hW9 I.below hW9.size
                            clear I
                            simp only [List.foldl_cons, List.foldl_nil, List.setIfInBounds_toArray, List.set_cons_zero, List.set_cons_succ]
                            clear ow4 ow5 ow6 ow7 ow14
                            go_wp2
                            try simp only [setCell_drawn]
                            refine bodyPost_ret (by first | (simp [results, Try.results101, go_sem]; done) | (simp [results, Try.results101, go_sem]; rfl)) rfl ⟨?_, hW10⟩
                            refine retb_eq ?_; simp only [mtB, t1_.out, t2_.out, t3_.out, t4_.out, t5_.out, t6_.out, t7_.out, t8_.out, t9_.out, t10_.out, t11_.out, t12_.out, t13_.out]; rfl
                        · have t12_ := Lib.hid t12
                          clear t12
                          go_upto_region 13 with fail
                          refine region_memo_f (B := W9.heap.size) (L := .val (.agg #[.int .i64 a1, .int .i64 a2]) :: .val (.agg #[.int .i64 b1, .int .i64 b2]) :: .val (.agg #[.int .i64 c1, .int .i64 c2]) :: .val (.agg #[.int .i64 d1, .int .i64 d2]) :: .val (.bool false) :: .val (.bool false) :: .skip :: .skip :: .skip :: .skip :: .skip :: .val (.bool false) :: .val (.bool false) :: []) (by kernel_rfl) (Nat.le_refl _) ((by exact trivial))
                            ⟨fun a w R => ld_P (R.slot 4 rfl) (R.keep ow4 trivial) rfl rfl, fun a w R => ld_P (R.slot 5 rfl) (R.keep ow5 trivial) rfl rfl, fun a w R => ld_P (R.slot 6 rfl) (R.keep ow6 trivial) rfl rfl, fun a w R => ld_P (R.slot 7 rfl) (R.keep ow7 trivial) rfl rfl, fun a w R => cl_tttt (enter_at Try.func115) (R.val 0) (R.val 1) (R.val 2) (R.val 3) (parts_is t12_.out (in4_iff.2 ⟨(in4_iff.1 t1_.out).1, (in4_iff.1 t1_.out).2.1, (in4_iff.1 t1_.out).2.2.1, (in4_iff.1 t1_.out).2.2.2⟩) _), fun a w R => mv (R.val 4), fun a w R => True.intro, fun a w R => True.intro, fun a w R => True.intro, fun a w R => True.intro, fun a w R => True.intro, fun a w R => pickf (R.val 5) (R.goneS 10), fun a w R => asg (R.val 11), trivial⟩ (fun act_ W10 I => ?_)
                          rw [I.act [(57, .agg #[.int .i64 a1, .int .i64 a2]), (58, .agg #[.int .i64 b1, .int .i64 b2]), (59, .agg #[.int .i64 c1, .int .i64 c2]), (60, .agg #[.int .i64 d1, .int .i64 d2]), (61, .bool false), (62, .bool false), (63, undef), (64, undef), (65, undef), (66, undef), (67, undef), (68, .bool false), (8, .bool false)]
                            ⟨I.val 0, I.val 1, I.val 2, I.val 3, I.val 4, I.val 5, I.gone 6, I.gone 7, I.gone 8, I.gone 9, I.gone 10, I.val 11, I.val 12, trivial⟩ rfl]
                          have sW10 : W9.heap.size ≤ W10.heap.size := I.below.size
                          replace ow4 := I.keep ow4 trivial
                          replace ow5 := I.keep ow5 trivial
                          replace ow6 := I.keep ow6 trivial
                          replace ow7 := I.keep ow7 trivial
                          replace ow14 := I.keep ow14 trivial
                          have hW10 : Bel w.heap.size w W10 := thenB hW9 I.below hW9.size
                          clear I
                          simp only [List.foldl_cons, List.foldl_nil, List.setIfInBounds_toArray, List.set_cons_zero, List.set_cons_succ]
                          clear ow4 ow5 ow6 ow7 ow14
                          go_wp2
                          try simp only [setCell_drawn]
                          refine bodyPost_ret (by first | (simp [results, Try.results101, go_sem]; done) | (simp [results, Try.results101, go_sem]; rfl)) rfl ⟨?_, hW10⟩
                          refine retb_eq ?_; simp only [mtB, t1_.out, t2_.out, t3_.out, t4_.out, t5_.out, t6_.out, t7_.out, t8_.out, t9_.out, t10_.out, t11_.out, t12_.out]; rfl
            · have t6_ := Lib.hid t6
              clear t6
              go_upto_region 6 with fail
              refine region_memo_f (B := W4.heap.size) (L := .val (.agg #[.int .i64 a1, .int .i64 a2]) :: .val (.agg #[.int .i64 d1, .int .i64 d2]) :: .val (.bool false) :: .val (.bool false) :: .skip :: .skip :: .skip :: .val (.bool false) :: .val (.bool false) :: []) (by kernel_rfl) (Nat.le_refl _) ((by exact trivial))
                ⟨fun a w R => ld_P (R.slot 4 rfl) (R.keep ow4 trivial) rfl rfl, fun a w R => ld_P (R.slot 7 rfl) (R.keep ow7 trivial) rfl rfl, fun a w R => (e_eql_P (R.val 0) (R.val 1) ((fun w => (eq_Point _ _ _ _ w).trans (by rw [t6_.out])))), fun a w R => mv (R.val 2), fun a w R => True.intro, fun a w R => True.intro, fun a w R => True.intro, fun a w R => pickf (R.val 3) (R.goneS 6), fun a w R => asg (R.val 7), trivial⟩ (fun act_ W5 I => ?_)
              rw [I.act [(32, .agg #[.int .i64 a1, .int .i64 a2]), (33, .agg #[.int .i64 d1, .int .i64 d2]), (34, .bool false), (35, .bool false), (36, undef), (37, undef), (38, undef), (39, .bool false), (23, .bool false)]
                ⟨I.val 0, I.val 1, I.val 2, I.val 3, I.gone 4, I.gone 5, I.gone 6, I.val 7, I.val 8, trivial⟩ rfl]
              have sW5 : W4.heap.size ≤ W5.heap.size := I.below.size
              replace ow4 := I.keep ow4 trivial
              replace ow5 := I.keep ow5 trivial
              replace ow6 := I.keep ow6 trivial
              replace ow7 := I.keep ow7 trivial
              replace ow14 := I.keep ow14 trivial
              have hW5 : Bel w.heap.size w W5 := thenB hW4 I.below hW4.size
              clear I
              simp only [List.foldl_cons, List.foldl_nil, List.setIfInBounds_toArray, List.set_cons_zero, List.set_cons_succ]
              rcases Bool.eq_false_or_eq_true (onB a1 a2 c1 c2 d1 d2) with t14 | t14
              · have t14_ := Lib.hid t14
                clear t14
                go_upto_region 8 with fail
                refine region_memo_f (B := W5.heap.size) (L := .val (.agg #[.int .i64 a1, .int .i64 a2]) :: .val (.agg #[.int .i64 c1, .int .i64 c2]) :: .val (.agg #[.int .i64 d1, .int .i64 d2]) :: .val (.bool true) :: .val (.bool true) :: []) (by kernel_rfl) (Nat.le_refl _) ((by exact trivial))
                  ⟨fun a w R => ld_P (R.slot 4 rfl) (R.keep ow4 trivial) rfl rfl, fun a w R => ld_P (R.slot 6 rfl) (R.keep ow6 trivial) rfl rfl, fun a w R => ld_P (R.slot 7 rfl) (R.keep ow7 trivial) rfl rfl, fun a w R => cl_ttt (enter_at Try.func99) (R.val 0) (R.val 1) (R.val 2) (On_is t14_.out _), fun a w R => asg (R.val 3), trivial⟩ (fun act_ W6 I => ?_)
                rw [I.act [(41, .agg #[.int .i64 a1, .int .i64 a2]), (42, .agg #[.int .i64 c1, .int .i64 c2]), (43, .agg #[.int .i64 d1, .int .i64 d2]), (44, .bool true), (40, .bool true)]
                  ⟨I.val 0, I.val 1, I.val 2, I.val 3, I.val 4, trivial⟩ rfl]
                have sW6 : W5.heap.size ≤ W6.heap.size := I.below.size
                replace ow4 := I.keep ow4 trivial
                replace ow5 := I.keep ow5 trivial
                replace ow6 := I.keep ow6 trivial
                replace ow7 := I.keep ow7 trivial
                replace ow14 := I.keep ow14 trivial
                have hW6 : Bel w.heap.size w W6 := thenB hW5 I.below hW5.size
                clear I
                simp only [List.foldl_cons, List.foldl_nil, List.setIfInBounds_toArray, List.set_cons_zero, List.set_cons_succ]
                go_upto_region 12 with fail
                refine region_memo_f (B := W6.heap.size) (L := .val (.bool true) :: []) (by kernel_rfl) (Nat.le_refl _) ((by exact trivial))
                  ⟨fun a w R => asc, trivial⟩ (fun act_ W7 I => ?_)
                rw [I.act [(8, .bool true)]
                  ⟨I.val 0, trivial⟩ rfl]
                have sW7 : W6.heap.size ≤ W7.heap.size := I.below.size
                replace ow4 := I.keep ow4 trivial
                replace ow5 := I.keep ow5 trivial
                replace ow6 := I.keep ow6 trivial
                replace ow7 := I.keep ow7 trivial
                replace ow14 := I.keep ow14 trivial
                have hW7 : Bel w.heap.size w W7 := thenB hW6 I.below hW6.size
                clear I
                simp only [List.foldl_cons, List.foldl_nil, List.setIfInBounds_toArray, List.set_cons_zero, List.set_cons_succ]
                clear ow4 ow5 ow6 ow7 ow14
                go_wp2
                try simp only [setCell_drawn]
                refine bodyPost_ret (by first | (simp [results, Try.results101, go_sem]; done) | (simp [results, Try.results101, go_sem]; rfl)) rfl ⟨?_, hW7⟩
                refine retb_eq ?_; simp only [mtB, t1_.out, t2_.out, t3_.out, t4_.out, t5_.out, t6_.out, t14_.out]; rfl
              · have t14_ := Lib.hid t14
                clear t14
                go_upto_region 8 with fail
                refine region_memo_f (B := W5.heap.size) (L := .val (.agg #[.int .i64 a1, .int .i64 a2]) :: .val (.agg #[.int .i64 c1, .int .i64 c2]) :: .val (.agg #[.int .i64 d1, .int .i64 d2]) :: .val (.bool false) :: .val (.bool false) :: []) (by kernel_rfl) (Nat.le_refl _) ((by exact trivial))
                  ⟨fun a w R => ld_P (R.slot 4 rfl) (R.keep ow4 trivial) rfl rfl, fun a w R => ld_P (R.slot 6 rfl) (R.keep ow6 trivial) rfl rfl, fun a w R => ld_P (R.slot 7 rfl) (R.keep ow7 trivial) rfl rfl, fun a w R => cl_ttt (enter_at Try.func99) (R.val 0) (R.val 1) (R.val 2) (On_is t14_.out _), fun a w R => asg (R.val 3), trivial⟩ (fun act_ W6 I => ?_)
                rw [I.act [(41, .agg #[.int .i64 a1, .int .i64 a2]), (42, .agg #[.int .i64 c1, .int .i64 c2]), (43, .agg #[.int .i64 d1, .int .i64 d2]), (44, .bool false), (40, .bool false)]
                  ⟨I.val 0, I.val 1, I.val 2, I.val 3, I.val 4, trivial⟩ rfl]
                have sW6 : W5.heap.size ≤ W6.heap.size := I.below.size
                replace ow4 := I.keep ow4 trivial
                replace ow5 := I.keep ow5 trivial
                replace ow6 := I.keep ow6 trivial
                replace ow7 := I.keep ow7 trivial
                replace ow14 := I.keep ow14 trivial
                have hW6 : Bel w.heap.size w W6 := thenB hW5 I.below hW5.size
                clear I
                simp only [List.foldl_cons, List.foldl_nil, List.setIfInBounds_toArray, List.set_cons_zero, List.set_cons_succ]
                rcases Bool.eq_false_or_eq_true (onB b1 b2 c1 c2 d1 d2) with t15 | t15
                · have t15_ := Lib.hid t15
                  clear t15
                  go_upto_region 9 with fail
                  refine region_memo_f (B := W6.heap.size) (L := .val (.agg #[.int .i64 b1, .int .i64 b2]) :: .val (.agg #[.int .i64 c1, .int .i64 c2]) :: .val (.agg #[.int .i64 d1, .int .i64 d2]) :: .val (.bool true) :: .val (.bool true) :: []) (by kernel_rfl) (Nat.le_refl _) ((by exact trivial))
                    ⟨fun a w R => ld_P (R.slot 5 rfl) (R.keep ow5 trivial) rfl rfl, fun a w R => ld_P (R.slot 6 rfl) (R.keep ow6 trivial) rfl rfl, fun a w R => ld_P (R.slot 7 rfl) (R.keep ow7 trivial) rfl rfl, fun a w R => cl_ttt (enter_at Try.func99) (R.val 0) (R.val 1) (R.val 2) (On_is t15_.out _), fun a w R => asg (R.val 3), trivial⟩ (fun act_ W7 I => ?_)
                  rw [I.act [(45, .agg #[.int .i64 b1, .int .i64 b2]), (46, .agg #[.int .i64 c1, .int .i64 c2]), (47, .agg #[.int .i64 d1, .int .i64 d2]), (48, .bool true), (40, .bool true)]
                    ⟨I.val 0, I.val 1, I.val 2, I.val 3, I.val 4, trivial⟩ rfl]
                  have sW7 : W6.heap.size ≤ W7.heap.size := I.below.size
                  replace ow4 := I.keep ow4 trivial
                  replace ow5 := I.keep ow5 trivial
                  replace ow6 := I.keep ow6 trivial
                  replace ow7 := I.keep ow7 trivial
                  replace ow14 := I.keep ow14 trivial
                  have hW7 : Bel w.heap.size w W7 := thenB hW6 I.below hW6.size
                  clear I
                  simp only [List.foldl_cons, List.foldl_nil, List.setIfInBounds_toArray, List.set_cons_zero, List.set_cons_succ]
                  go_upto_region 12 with fail
                  refine region_memo_f (B := W7.heap.size) (L := .val (.bool true) :: []) (by kernel_rfl) (Nat.le_refl _) ((by exact trivial))
                    ⟨fun a w R => asc, trivial⟩ (fun act_ W8 I => ?_)
                  rw [I.act [(8, .bool true)]
                    ⟨I.val 0, trivial⟩ rfl]
                  have sW8 : W7.heap.size ≤ W8.heap.size := I.below.size
                  replace ow4 := I.keep ow4 trivial
                  replace ow5 := I.keep ow5 trivial
                  replace ow6 := I.keep ow6 trivial
                  replace ow7 := I.keep ow7 trivial
                  replace ow14 := I.keep ow14 trivial
                  have hW8 : Bel w.heap.size w W8 := thenB hW7 I.below hW7.size
                  clear I
                  simp only [List.foldl_cons, List.foldl_nil, List.setIfInBounds_toArray, List.set_cons_zero, List.set_cons_succ]
                  clear ow4 ow5 ow6 ow7 ow14
                  go_wp2
                  try simp only [setCell_drawn]
                  refine bodyPost_ret (by first | (simp [results, Try.results101, go_sem]; done) | (simp [results, Try.results101, go_sem]; rfl)) rfl ⟨?_, hW8⟩
                  refine retb_eq ?_; simp only [mtB, t1_.out, t2_.out, t3_.out, t4_.out, t5_.out, t6_.out, t14_.out, t15_.out]; rfl
                · have t15_ := Lib.hid t15
                  clear t15
                  go_upto_region 9 with fail
                  refine region_memo_f (B := W6.heap.size) (L := .val (.agg #[.int .i64 b1, .int .i64 b2]) :: .val (.agg #[.int .i64 c1, .int .i64 c2]) :: .val (.agg #[.int .i64 d1, .int .i64 d2]) :: .val (.bool false) :: .val (.bool false) :: []) (by kernel_rfl) (Nat.le_refl _) ((by exact trivial))
                    ⟨fun a w R => ld_P (R.slot 5 rfl) (R.keep ow5 trivial) rfl rfl, fun a w R => ld_P (R.slot 6 rfl) (R.keep ow6 trivial) rfl rfl, fun a w R => ld_P (R.slot 7 rfl) (R.keep ow7 trivial) rfl rfl, fun a w R => cl_ttt (enter_at Try.func99) (R.val 0) (R.val 1) (R.val 2) (On_is t15_.out _), fun a w R => asg (R.val 3), trivial⟩ (fun act_ W7 I => ?_)
                  rw [I.act [(45, .agg #[.int .i64 b1, .int .i64 b2]), (46, .agg #[.int .i64 c1, .int .i64 c2]), (47, .agg #[.int .i64 d1, .int .i64 d2]), (48, .bool false), (40, .bool false)]
                    ⟨I.val 0, I.val 1, I.val 2, I.val 3, I.val 4, trivial⟩ rfl]
                  have sW7 : W6.heap.size ≤ W7.heap.size := I.below.size
                  replace ow4 := I.keep ow4 trivial
                  replace ow5 := I.keep ow5 trivial
                  replace ow6 := I.keep ow6 trivial
                  replace ow7 := I.keep ow7 trivial
                  replace ow14 := I.keep ow14 trivial
                  have hW7 : Bel w.heap.size w W7 := thenB hW6 I.below hW6.size
                  clear I
                  simp only [List.foldl_cons, List.foldl_nil, List.setIfInBounds_toArray, List.set_cons_zero, List.set_cons_succ]
                  rcases Bool.eq_false_or_eq_true (onB c1 c2 a1 a2 b1 b2) with t16 | t16
                  · have t16_ := Lib.hid t16
                    clear t16
                    go_upto_region 10 with fail
                    refine region_memo_f (B := W7.heap.size) (L := .val (.agg #[.int .i64 c1, .int .i64 c2]) :: .val (.agg #[.int .i64 a1, .int .i64 a2]) :: .val (.agg #[.int .i64 b1, .int .i64 b2]) :: .val (.bool true) :: .val (.bool true) :: []) (by kernel_rfl) (Nat.le_refl _) ((by exact trivial))
                      ⟨fun a w R => ld_P (R.slot 6 rfl) (R.keep ow6 trivial) rfl rfl, fun a w R => ld_P (R.slot 4 rfl) (R.keep ow4 trivial) rfl rfl, fun a w R => ld_P (R.slot 5 rfl) (R.keep ow5 trivial) rfl rfl, fun a w R => cl_ttt (enter_at Try.func99) (R.val 0) (R.val 1) (R.val 2) (On_is t16_.out _), fun a w R => asg (R.val 3), trivial⟩ (fun act_ W8 I => ?_)
                    rw [I.act [(49, .agg #[.int .i64 c1, .int .i64 c2]), (50, .agg #[.int .i64 a1, .int .i64 a2]), (51, .agg #[.int .i64 b1, .int .i64 b2]), (52, .bool true), (40, .bool true)]
                      ⟨I.val 0, I.val 1, I.val 2, I.val 3, I.val 4, trivial⟩ rfl]
                    have sW8 : W7.heap.size ≤ W8.heap.size := I.below.size
                    replace ow4 := I.keep ow4 trivial
                    replace ow5 := I.keep ow5 trivial
                    replace ow6 := I.keep ow6 trivial
                    replace ow7 := I.keep ow7 trivial
                    replace ow14 := I.keep ow14 trivial
                    have hW8 : Bel w.heap.size w W8 := thenB hW7 I.below hW7.size
                    clear I
                    simp only [List.foldl_cons, List.foldl_nil, List.setIfInBounds_toArray, List.set_cons_zero, List.set_cons_succ]
                    go_upto_region 12 with fail
                    refine region_memo_f (B := W8.heap.size) (L := .val (.bool true) :: []) (by kernel_rfl) (Nat.le_refl _) ((by exact trivial))
                      ⟨fun a w R => asc, trivial⟩ (fun act_ W9 I => ?_)
                    rw [I.act [(8, .bool true)]
                      ⟨I.val 0, trivial⟩ rfl]
                    have sW9 : W8.heap.size ≤ W9.heap.size := I.below.size
                    replace ow4 := I.keep ow4 trivial
                    replace ow5 := I.keep ow5 trivial
                    replace ow6 := I.keep ow6 trivial
                    replace ow7 := I.keep ow7 trivial
                    replace ow14 := I.keep ow14 trivial
                    have hW9 : Bel w.heap.size w W9 := thenB hW8 I.below hW8.size
                    clear I
                    simp only [List.foldl_cons, List.foldl_nil, List.setIfInBounds_toArray, List.set_cons_zero, List.set_cons_succ]
                    clear ow4 ow5 ow6 ow7 ow14
                    go_wp2
                    try simp only [setCell_drawn]
                    refine bodyPost_ret (by first | (simp [results, Try.results101, go_sem]; done) | (simp [results, Try.results101, go_sem]; rfl)) rfl ⟨?_, hW9⟩
                    refine retb_eq ?_; simp only [mtB, t1_.out, t2_.out, t3_.out, t4_.out, t5_.out, t6_.out, t14_.out, t15_.out, t16_.out]; rfl
                  · have t16_ := Lib.hid t16
                    clear t16
                    go_upto_region 10 with fail
                    refine region_memo_f (B := W7.heap.size) (L := .val (.agg #[.int .i64 c1, .int .i64 c2]) :: .val (.agg #[.int .i64 a1, .int .i64 a2]) :: .val (.agg #[.int .i64 b1, .int .i64 b2]) :: .val (.bool false) :: .val (.bool false) :: []) (by kernel_rfl) (Nat.le_refl _) ((by exact trivial))
                      ⟨fun a w R => ld_P (R.slot 6 rfl) (R.keep ow6 trivial) rfl rfl, fun a w R => ld_P (R.slot 4 rfl) (R.keep ow4 trivial) rfl rfl, fun a w R => ld_P (R.slot 5 rfl) (R.keep ow5 trivial) rfl rfl, fun a w R => cl_ttt (enter_at Try.func99) (R.val 0) (R.val 1) (R.val 2) (On_is t16_.out _), fun a w R => asg (R.val 3), trivial⟩ (fun act_ W8 I => ?_)
                    rw [I.act [(49, .agg #[.int .i64 c1, .int .i64 c2]), (50, .agg #[.int .i64 a1, .int .i64 a2]), (51, .agg #[.int .i64 b1, .int .i64 b2]), (52, .bool false), (40, .bool false)]
                      ⟨I.val 0, I.val 1, I.val 2, I.val 3, I.val 4, trivial⟩ rfl]
                    have sW8 : W7.heap.size ≤ W8.heap.size := I.below.size
                    replace ow4 := I.keep ow4 trivial
                    replace ow5 := I.keep ow5 trivial
                    replace ow6 := I.keep ow6 trivial
                    replace ow7 := I.keep ow7 trivial
                    replace ow14 := I.keep ow14 trivial
                    have hW8 : Bel w.heap.size w W8 := thenB hW7 I.below hW7.size
                    clear I
                    simp only [List.foldl_cons, List.foldl_nil, List.setIfInBounds_toArray, List.set_cons_zero, List.set_cons_succ]
                    rcases Bool.eq_false_or_eq_true (onB d1 d2 a1 a2 b1 b2) with t17 | t17
                    · have t17_ := Lib.hid t17
                      clear t17
                      go_upto_region 11 with fail
                      refine region_memo_f (B := W8.heap.size) (L := .val (.agg #[.int .i64 d1, .int .i64 d2]) :: .val (.agg #[.int .i64 a1, .int .i64 a2]) :: .val (.agg #[.int .i64 b1, .int .i64 b2]) :: .val (.bool true) :: .val (.bool true) :: []) (by kernel_rfl) (Nat.le_refl _) ((by exact trivial))
                        ⟨fun a w R => ld_P (R.slot 7 rfl) (R.keep ow7 trivial) rfl rfl, fun a w R => ld_P (R.slot 4 rfl) (R.keep ow4 trivial) rfl rfl, fun a w R => ld_P (R.slot 5 rfl) (R.keep ow5 trivial) rfl rfl, fun a w R => cl_ttt (enter_at Try.func99) (R.val 0) (R.val 1) (R.val 2) (On_is t17_.out _), fun a w R => asg (R.val 3), trivial⟩ (fun act_ W9 I => ?_)
                      rw [I.act [(53, .agg #[.int .i64 d1, .int .i64 d2]), (54, .agg #[.int .i64 a1, .int .i64 a2]), (55, .agg #[.int .i64 b1, .int .i64 b2]), (56, .bool true), (40, .bool true)]
                        ⟨I.val 0, I.val 1, I.val 2, I.val 3, I.val 4, trivial⟩ rfl]
                      have sW9 : W8.heap.size ≤ W9.heap.size := I.below.size
                      replace ow4 := I.keep ow4 trivial
                      replace ow5 := I.keep ow5 trivial
                      replace ow6 := I.keep ow6 trivial
                      replace ow7 := I.keep ow7 trivial
                      replace ow14 := I.keep ow14 trivial
                      have hW9 : Bel w.heap.size w W9 := thenB hW8 I.below hW8.size
                      clear I
                      simp only [List.foldl_cons, List.foldl_nil, List.setIfInBounds_toArray, List.set_cons_zero, List.set_cons_succ]
                      go_upto_region 12 with fail
                      refine region_memo_f (B := W9.heap.size) (L := .val (.bool true) :: []) (by kernel_rfl) (Nat.le_refl _) ((by exact trivial))
                        ⟨fun a w R => asc, trivial⟩ (fun act_ W10 I => ?_)
                      rw [I.act [(8, .bool true)]
                        ⟨I.val 0, trivial⟩ rfl]
                      have sW10 : W9.heap.size ≤ W10.heap.size := I.below.size
                      replace ow4 := I.keep ow4 trivial
                      replace ow5 := I.keep ow5 trivial
                      replace ow6 := I.keep ow6 trivial
                      replace ow7 := I.keep ow7 trivial
                      replace ow14 := I.keep ow14 trivial
                      have hW10 : Bel w.heap.size w W10 := thenB hW9 I.below hW9.size
                      clear I
                      simp only [List.foldl_cons, List.foldl_nil, List.setIfInBounds_toArray, List.set_cons_zero, List.set_cons_succ]
                      clear ow4 ow5 ow6 ow7 ow14
                      go_wp2
                      try simp only [setCell_drawn]
                      refine bodyPost_ret (by first | (simp [results, Try.results101, go_sem]; done) | (simp [results, Try.results101, go_sem]; rfl)) rfl ⟨?_, hW10⟩
                      refine retb_eq ?_; simp only [mtB, t1_.out, t2_.out, t3_.out, t4_.out, t5_.out, t6_.out, t14_.out, t15_.out, t16_.out, t17_.out]; rfl
                    · have t17_ := Lib.hid t17
                      clear t17
                      go_upto_region 11 with fail
                      refine region_memo_f (B := W8.heap.size) (L := .val (.agg #[.int .i64 d1, .int .i64 d2]) :: .val (.agg #[.int .i64 a1, .int .i64 a2]) :: .val (.agg #[.int .i64 b1, .int .i64 b2]) :: .val (.bool false) :: .val (.bool false) :: []) (by kernel_rfl) (Nat.le_refl _) ((by exact trivial))
                        ⟨fun a w R => ld_P (R.slot 7 rfl) (R.keep ow7 trivial) rfl rfl, fun a w R => ld_P (R.slot 4 rfl) (R.keep ow4 trivial) rfl rfl, fun a w R => ld_P (R.slot 5 rfl) (R.keep ow5 trivial) rfl rfl, fun a w R => cl_ttt (enter_at Try.func99) (R.val 0) (R.val 1) (R.val 2) (On_is t17_.out _), fun a w R => asg (R.val 3), trivial⟩ (fun act_ W9 I => ?_)
                      rw [I.act [(53, .agg #[.int .i64 d1, .int .i64 d2]), (54, .agg #[.int .i64 a1, .int .i64 a2]), (55, .agg #[.int .i64 b1, .int .i64 b2]), (56, .bool false), (40, .bool false)]
                        ⟨I.val 0, I.val 1, I.val 2, I.val 3, I.val 4, trivial⟩ rfl]
                      have sW9 : W8.heap.size ≤ W9.heap.size := I.below.size
                      replace ow4 := I.keep ow4 trivial
                      replace ow5 := I.keep ow5 trivial
                      replace ow6 := I.keep ow6 trivial
                      replace ow7 := I.keep ow7 trivial
                      replace ow14 := I.keep ow14 trivial
                      have hW9 : Bel w.heap.size w W9 := thenB hW8 I.below hW8.size
                      clear I
                      simp only [List.foldl_cons, List.foldl_nil, List.setIfInBounds_toArray, List.set_cons_zero, List.set_cons_succ]
                      rcases Bool.eq_false_or_eq_true (ptB a1 a2 b1 b2 c1 c2 d1 d2) with t18 | t18
                      · have t18_ := Lib.hid t18
                        clear t18
                        rcases Bool.eq_false_or_eq_true (ptB c1 c2 d1 d2 a1 a2 b1 b2) with t19 | t19
                        · have t19_ := Lib.hid t19
                          clear t19
                          go_upto_region 13 with fail
                          refine region_memo_f (B := W9.heap.size) (L := .val (.agg #[.int .i64 a1, .int .i64 a2]) :: .val (.agg #[.int .i64 b1, .int .i64 b2]) :: .val (.agg #[.int .i64 c1, .int .i64 c2]) :: .val (.agg #[.int .i64 d1, .int .i64 d2]) :: .val (.bool true) :: .val (.bool true) :: .val (.agg #[.int .i64 c1, .int .i64 c2]) :: .val (.agg #[.int .i64 d1, .int .i64 d2]) :: .val (.agg #[.int .i64 a1, .int .i64 a2]) :: .val (.agg #[.int .i64 b1, .int .i64 b2]) :: .val (.bool true) :: .val (.bool true) :: .val (.bool true) :: []) (by kernel_rfl) (Nat.le_refl _) ((by exact trivial))
                            ⟨fun a w R => ld_P (R.slot 4 rfl) (R.keep ow4 trivial) rfl rfl, fun a w R => ld_P (R.slot 5 rfl) (R.keep ow5 trivial) rfl rfl, fun a w R => ld_P (R.slot 6 rfl) (R.keep ow6 trivial) rfl rfl, fun a w R => ld_P (R.slot 7 rfl) (R.keep ow7 trivial) rfl rfl, fun a w R => cl_tttt (enter_at Try.func115) (R.val 0) (R.val 1) (R.val 2) (R.val 3) (parts_is t18_.out (in4_iff.2 ⟨(in4_iff.1 t1_.out).1, (in4_iff.1 t1_.out).2.1, (in4_iff.1 t1_.out).2.2.1, (in4_iff.1 t1_.out).2.2.2⟩) _), fun a w R => mv (R.val 4), fun a w R => ld_P (R.slot 6 rfl) (R.keep ow6 trivial) rfl rfl, fun a w R => ld_P (R.slot 7 rfl) (R.keep ow7 trivial) rfl rfl, fun a w R => ld_P (R.slot 4 rfl) (R.keep ow4 trivial) rfl rfl, fun a w R => ld_P (R.slot 5 rfl) (R.keep ow5 trivial) rfl rfl, fun a w R => cl_tttt (enter_at Try.func115) (R.val 6) (R.val 7) (R.val 8) (R.val 9) (parts_is t19_.out (in4_iff.2 ⟨(in4_iff.1 t1_.out).2.2.1, (in4_iff.1 t1_.out).2.2.2, (in4_iff.1 t1_.out).1, (in4_iff.1 t1_.out).2.1⟩) _), fun a w R => pickt (R.val 5) (R.val 10), fun a w R => asg (R.val 11), trivial⟩ (fun act_ W10 I => ?_)
                          rw [I.act [(57, .agg #[.int .i64 a1, .int .i64 a2]), (58, .agg #[.int .i64 b1, .int .i64 b2]), (59, .agg #[.int .i64 c1, .int .i64 c2]), (60, .agg #[.int .i64 d1, .int .i64 d2]), (61, .bool true), (62, .bool true), (63, .agg #[.int .i64 c1, .int .i64 c2]), (64, .agg #[.int .i64 d1, .int .i64 d2]), (65, .agg #[.int .i64 a1, .int .i64 a2]), (66, .agg #[.int .i64 b1, .int .i64 b2]), (67, .bool true), (68, .bool true), (8, .bool true)]
                            ⟨I.val 0, I.val 1, I.val 2, I.val 3, I.val 4, I.val 5, I.val 6, I.val 7, I.val 8, I.val 9, I.val 10, I.val 11, I.val 12, trivial⟩ rfl]
                          have sW10 : W9.heap.size ≤ W10.heap.size := I.below.size
                          replace ow4 := I.keep ow4 trivial
                          replace ow5 := I.keep ow5 trivial
                          replace ow6 := I.keep ow6 trivial
                          replace ow7 := I.keep ow7 trivial
                          replace ow14 := I.keep ow14 trivial
                          have hW10 : Bel w.heap.size w W10 := thenB hW9 I.below hW9.size
                          clear I
                          simp only [List.foldl_cons, List.foldl_nil, List.setIfInBounds_toArray, List.set_cons_zero, List.set_cons_succ]
                          clear ow4 ow5 ow6 ow7 ow14
                          go_wp2
                          try simp only [setCell_drawn]
                          refine bodyPost_ret (by first | (simp [results, Try.results101, go_sem]; done) | (simp [results, Try.results101, go_sem]; rfl)) rfl ⟨?_, hW10⟩
                          refine retb_eq ?_; simp only [mtB, t1_.out, t2_.out, t3_.out, t4_.out, t5_.out, t6_.out, t14_.out, t15_.out, t16_.out, t17_.out, t18_.out, t19_.out]; rfl
                        · have t19_ := Lib.hid t19
                          clear t19
                          go_upto_region 13 with fail
                          refine region_memo_f (B := W9.heap.size) (L := .val (.agg #[.int .i64 a1, .int .i64 a2]) :: .val (.agg #[.int .i64 b1, .int .i64 b2]) :: .val (.agg #[.int .i64 c1, .int .i64 c2]) :: .val (.agg #[.int .i64 d1, .int .i64 d2]) :: .val (.bool true) :: .val (.bool true) :: .val (.agg #[.int .i64 c1, .int .i64 c2]) :: .val (.agg #[.int .i64 d1, .int .i64 d2]) :: .val (.agg #[.int .i64 a1, .int .i64 a2]) :: .val (.agg #[.int .i64 b1, .int .i64 b2]) :: .val (.bool false) :: .val (.bool false) :: .val (.bool false) :: []) (by kernel_rfl) (Nat.le_refl _) ((by exact trivial))
                            ⟨fun a w R => ld_P (R.slot 4 rfl) (R.keep ow4 trivial) rfl rfl, fun a w R => ld_P (R.slot 5 rfl) (R.keep ow5 trivial) rfl rfl, fun a w R => ld_P (R.slot 6 rfl) (R.keep ow6 trivial) rfl rfl, fun a w R => ld_P (R.slot 7 rfl) (R.keep ow7 trivial) rfl rfl, fun a w R => cl_tttt (enter_at Try.func115) (R.val 0) (R.val 1) (R.val 2) (R.val 3) (parts_is t18_.out (in4_iff.2 ⟨(in4_iff.1 t1_.out).1, (in4_iff.1 t1_.out).2.1, (in4_iff.1 t1_.out).2.2.1, (in4_iff.1 t1_.out).2.2.2⟩) _), fun a w R => mv (R.val 4), fun a w R => ld_P (R.slot 6 rfl) (R.keep ow6 trivial) rfl rfl, fun a w R => ld_P (R.slot 7 rfl) (R.keep ow7 trivial) rfl rfl, fun a w R => ld_P (R.slot 4 rfl) (R.keep ow4 trivial) rfl rfl, fun a w R => ld_P (R.slot 5 rfl) (R.keep ow5 trivial) rfl rfl, fun a w R => cl_tttt (enter_at Try.func115) (R.val 6) (R.val 7) (R.val 8) (R.val 9) (parts_is t19_.out (in4_iff.2 ⟨(in4_iff.1 t1_.out).2.2.1, (in4_iff.1 t1_.out).2.2.2, (in4_iff.1 t1_.out).1, (in4_iff.1 t1_.out).2.1⟩) _), fun a w R => pickt (R.val 5) (R.val 10), fun a w R => asg (R.val 11), trivial⟩ (fun act_ W10 I => ?_)
                          rw [I.act [(57, .agg #[.int .i64 a1, .int .i64 a2]), (58, .agg #[.int .i64 b1, .int .i64 b2]), (59, .agg #[.int .i64 c1, .int .i64 c2]), (60, .agg #[.int .i64 d1, .int .i64 d2]), (61, .bool true), (62, .bool true), (63, .agg #[.int .i64 c1, .int .i64 c2]), (64, .agg #[.int .i64 d1, .int .i64 d2]), (65, .agg #[.int .i64 a1, .int .i64 a2]), (66, .agg #[.int .i64 b1, .int .i64 b2]), (67, .bool false), (68, .bool false), (8, .bool false)]
                            ⟨I.val 0, I.val 1, I.val 2, I.val 3, I.val 4, I.val 5, I.val 6, I.val 7, I.val 8, I.val 9, I.val 10, I.val 11, I.val 12, trivial⟩ rfl]
                          have sW10 : W9.heap.size ≤ W10.heap.size := I.below.size
                          replace ow4 := I.keep ow4 trivial
                          replace ow5 := I.keep ow5 trivial
                          replace ow6 := I.keep ow6 trivial
                          replace ow7 := I.keep ow7 trivial
                          replace ow14 := I.keep ow14 trivial
                          have hW10 : Bel w.heap.size w W10 := thenB hW9 I.below hW9.size
                          clear I
                          simp only [List.foldl_cons, List.foldl_nil, List.setIfInBounds_toArray, List.set_cons_zero, List.set_cons_succ]
                          clear ow4 ow5 ow6 ow7 ow14
                          go_wp2
                          try simp only [setCell_drawn]
                          refine bodyPost_ret (by first | (simp [results, Try.results101, go_sem]; done) | (simp [results, Try.results101, go_sem]; rfl)) rfl ⟨?_, hW10⟩
                          refine retb_eq ?_; simp only [mtB, t1_.out, t2_.out, t3_.out, t4_.out, t5_.out, t6_.out, t14_.out, t15_.out, t16_.out, t17_.out, t18_.out, t19_.out]; rfl
                      · have t18_ := Lib.hid t18
                        clear t18
                        go_upto_region 13 with fail
                        refine region_memo_f (B := W9.heap.size) (L := .val (.agg #[.int .i64 a1, .int .i64 a2]) :: .val (.agg #[.int .i64 b1, .int .i64 b2]) :: .val (.agg #[.int .i64 c1, .int .i64 c2]) :: .val (.agg #[.int .i64 d1, .int .i64 d2]) :: .val (.bool false) :: .val (.bool false) :: .skip :: .skip :: .skip :: .skip :: .skip :: .val (.bool false) :: .val (.bool false) :: []) (by kernel_rfl) (Nat.le_refl _) ((by exact trivial))
                          ⟨fun a w R => ld_P (R.slot 4 rfl) (R.keep ow4 trivial) rfl rfl, fun a w R => ld_P (R.slot 5 rfl) (R.keep ow5 trivial) rfl rfl, fun a w R => ld_P (R.slot 6 rfl) (R.keep ow6 trivial) rfl rfl, fun a w R => ld_P (R.slot 7 rfl) (R.keep ow7 trivial) rfl rfl, fun a w R => cl_tttt (enter_at Try.func115) (R.val 0) (R.val 1) (R.val 2) (R.val 3) (parts_is t18_.out (in4_iff.2 ⟨(in4_iff.1 t1_.out).1, (in4_iff.1 t1_.out).2.1, (in4_iff.1 t1_.out).2.2.1, (in4_iff.1 t1_.out).2.2.2⟩) _), fun a w R => mv (R.val 4), fun a w R => True.intro, fun a w R => True.intro, fun a w R => True.intro, fun a w R => True.intro, fun a w R => True.intro, fun a w R => pickf (R.val 5) (R.goneS 10), fun a w R => asg (R.val 11), trivial⟩ (fun act_ W10 I => ?_)
                        rw [I.act [(57, .agg #[.int .i64 a1, .int .i64 a2]), (58, .agg #[.int .i64 b1, .int .i64 b2]), (59, .agg #[.int .i64 c1, .int .i64 c2]), (60, .agg #[.int .i64 d1, .int .i64 d2]), (61, .bool false), (62, .bool false), (63, undef), (64, undef), (65, undef), (66, undef), (67, undef), (68, .bool false), (8, .bool false)]
                          ⟨I.val 0, I.val 1, I.val 2, I.val 3, I.val 4, I.val 5, I.gone 6, I.gone 7, I.gone 8, I.gone 9, I.gone 10, I.val 11, I.val 12, trivial⟩ rfl]
                        have sW10 : W9.heap.size ≤ W10.heap.size := I.below.size
                        replace ow4 := I.keep ow4 trivial
                        replace ow5 := I.keep ow5 trivial
                        replace ow6 := I.keep ow6 trivial
                        replace ow7 := I.keep ow7 trivial
                        replace ow14 := I.keep ow14 trivial
                        have hW10 : Bel w.heap.size w W10 := thenB hW9 I.below hW9.size
                        clear I
                        simp only [List.foldl_cons, List.foldl_nil, List.setIfInBounds_toArray, List.set_cons_zero, List.set_cons_succ]
                        clear ow4 ow5 ow6 ow7 ow14
                        go_wp2
                        try simp only [setCell_drawn]
                        refine bodyPost_ret (by first | (simp [results, Try.results101, go_sem]; done) | (simp [results, Try.results101, go_sem]; rfl)) rfl ⟨?_, hW10⟩
                        refine retb_eq ?_; simp only [mtB, t1_.out, t2_.out, t3_.out, t4_.out, t5_.out, t6_.out, t14_.out, t15_.out, t16_.out, t17_.out, t18_.out]; rfl
        · have t4_ := Lib.hid t4
          clear t4
          go_upto_region 5 with fail
          refine region_memo_f (B := W3.heap.size) (L := .val (.agg #[.int .i64 a1, .int .i64 a2]) :: .val (.agg #[.int .i64 c1, .int .i64 c2]) :: .val (.bool false) :: .val (.bool false) :: .skip :: .skip :: .skip :: .val (.bool false) :: .val (.bool false) :: []) (by kernel_rfl) (Nat.le_refl _) ((by exact trivial))
            ⟨fun a w R => ld_P (R.slot 4 rfl) (R.keep ow4 trivial) rfl rfl, fun a w R => ld_P (R.slot 6 rfl) (R.keep ow6 trivial) rfl rfl, fun a w R => (e_eql_P (R.val 0) (R.val 1) ((fun w => (eq_Point _ _ _ _ w).trans (by rw [t4_.out])))), fun a w R => mv (R.val 2), fun a w R => True.intro, fun a w R => True.intro, fun a w R => True.intro, fun a w R => pickf (R.val 3) (R.goneS 6), fun a w R => asg (R.val 7), trivial⟩ (fun act_ W4 I => ?_)
          rw [I.act [(24, .agg #[.int .i64 a1, .int .i64 a2]), (25, .agg #[.int .i64 c1, .int .i64 c2]), (26, .bool false), (27, .bool false), (28, undef), (29, undef), (30, undef), (31, .bool false), (23, .bool false)]
            ⟨I.val 0, I.val 1, I.val 2, I.val 3, I.gone 4, I.gone 5, I.gone 6, I.val 7, I.val 8, trivial⟩ rfl]
          have sW4 : W3.heap.size ≤ W4.heap.size := I.below.size
          replace ow4 := I.keep ow4 trivial
          replace ow5 := I.keep ow5 trivial
          replace ow6 := I.keep ow6 trivial
          replace ow7 := I.keep ow7 trivial
          replace ow14 := I.keep ow14 trivial
          have hW4 : Bel w.heap.size w W4 := thenB hW3 I.below hW3.size
          clear I
          simp only [List.foldl_cons, List.foldl_nil, List.setIfInBounds_toArray, List.set_cons_zero, List.set_cons_succ]
          rcases Bool.eq_false_or_eq_true (decide (a1 = d1 ∧ a2 = d2)) with t20 | t20
          · have t20_ := Lib.hid t20
            clear t20
            rcases Bool.eq_false_or_eq_true (decide (b1 = c1 ∧ b2 = c2)) with t21 | t21
            · have t21_ := Lib.hid t21
              clear t21
              go_upto_region 6 with fail
              refine region_memo_f (B := W4.heap.size) (L := .val (.agg #[.int .i64 a1, .int .i64 a2]) :: .val (.agg #[.int .i64 d1, .int .i64 d2]) :: .val (.bool true) :: .val (.bool true) :: .val (.agg #[.int .i64 b1, .int .i64 b2]) :: .val (.agg #[.int .i64 c1, .int .i64 c2]) :: .val (.bool true) :: .val (.bool true) :: .val (.bool true) :: []) (by kernel_rfl) (Nat.le_refl _) ((by exact trivial))
                ⟨fun a w R => ld_P (R.slot 4 rfl) (R.keep ow4 trivial) rfl rfl, fun a w R => ld_P (R.slot 7 rfl) (R.keep ow7 trivial) rfl rfl, fun a w R => (e_eql_P (R.val 0) (R.val 1) ((fun w => (eq_Point _ _ _ _ w).trans (by rw [t20_.out])))), fun a w R => mv (R.val 2), fun a w R => ld_P (R.slot 5 rfl) (R.keep ow5 trivial) rfl rfl, fun a w R => ld_P (R.slot 6 rfl) (R.keep ow6 trivial) rfl rfl, fun a w R => (e_eql_P (R.val 4) (R.val 5) ((fun w => (eq_Point _ _ _ _ w).trans (by rw [t21_.out])))), fun a w R => pickt (R.val 3) (R.val 6), fun a w R => asg (R.val 7), trivial⟩ (fun act_ W5 I => ?_)
              rw [I.act [(32, .agg #[.int .i64 a1, .int .i64 a2]), (33, .agg #[.int .i64 d1, .int .i64 d2]), (34, .bool true), (35, .bool true), (36, .agg #[.int .i64 b1, .int .i64 b2]), (37, .agg #[.int .i64 c1, .int .i64 c2]), (38, .bool true), (39, .bool true), (23, .bool true)]
                ⟨I.val 0, I.val 1, I.val 2, I.val 3, I.val 4, I.val 5, I.val 6, I.val 7, I.val 8, trivial⟩ rfl]
              have sW5 : W4.heap.size ≤ W5.heap.size := I.below.size
              replace ow4 := I.keep ow4 trivial
              replace ow5 := I.keep ow5 trivial
              replace ow6 := I.keep ow6 trivial
              replace ow7 := I.keep ow7 trivial
              replace ow14 := I.keep ow14 trivial
              have hW5 : Bel w.heap.size w W5 := thenB hW4 I.below hW4.size
              clear I
              simp only [List.foldl_cons, List.foldl_nil, List.setIfInBounds_toArray, List.set_cons_zero, List.set_cons_succ]
              go_upto_region 7 with fail
              refine region_memo_f (B := W5.heap.size) (L := .val (.bool true) :: []) (by kernel_rfl) (Nat.le_refl _) ((by exact trivial))
                ⟨fun a w R => asc, trivial⟩ (fun act_ W6 I => ?_)
              rw [I.act [(8, .bool true)]
                ⟨I.val 0, trivial⟩ rfl]
              have sW6 : W5.heap.size ≤ W6.heap.size := I.below.size
              replace ow4 := I.keep ow4 trivial
              replace ow5 := I.keep ow5 trivial
              replace ow6 := I.keep ow6 trivial
              replace ow7 := I.keep ow7 trivial
              replace ow14 := I.keep ow14 trivial
              have hW6 : Bel w.heap.size w W6 := thenB hW5 I.below hW5.size
              clear I
              simp only [List.foldl_cons, List.foldl_nil, List.setIfInBounds_toArray, List.set_cons_zero, List.set_cons_succ]
              clear ow4 ow5 ow6 ow7 ow14
              go_wp2
              try simp only [setCell_drawn]
              refine bodyPost_ret (by first | (simp [results, Try.results101, go_sem]; done) | (simp [results, Try.results101, go_sem]; rfl)) rfl ⟨?_, hW6⟩
              refine retb_eq ?_; simp only [mtB, t1_.out, t2_.out, t3_.out, t4_.out, t20_.out, t21_.out]; rfl
            · have t21_ := Lib.hid t21
              clear t21
              go_upto_region 6 with fail
              refine region_memo_f (B := W4.heap.size) (L := .val (.agg #[.int .i64 a1, .int .i64 a2]) :: .val (.agg #[.int .i64 d1, .int .i64 d2]) :: .val (.bool true) :: .val (.bool true) :: .val (.agg #[.int .i64 b1, .int .i64 b2]) :: .val (.agg #[.int .i64 c1, .int .i64 c2]) :: .val (.bool false) :: .val (.bool false) :: .val (.bool false) :: []) (by kernel_rfl) (Nat.le_refl _) ((by exact trivial))
                ⟨fun a w R => ld_P (R.slot 4 rfl) (R.keep ow4 trivial) rfl rfl, fun a w R => ld_P (R.slot 7 rfl) (R.keep ow7 trivial) rfl rfl, fun a w R => (e_eql_P (R.val 0) (R.val 1) ((fun w => (eq_Point _ _ _ _ w).trans (by rw [t20_.out])))), fun a w R => mv (R.val 2), fun a w R => ld_P (R.slot 5 rfl) (R.keep ow5 trivial) rfl rfl, fun a w R => ld_P (R.slot 6 rfl) (R.keep ow6 trivial) rfl rfl, fun a w R => (e_eql_P (R.val 4) (R.val 5) ((fun w => (eq_Point _ _ _ _ w).trans (by rw [t21_.out])))), fun a w R => pickt (R.val 3) (R.val 6), fun a w R => asg (R.val 7), trivial⟩ (fun act_ W5 I => ?_)
              rw [I.act [(32, .agg #[.int .i64 a1, .int .i64 a2]), (33, .agg #[.int .i64 d1, .int .i64 d2]), (34, .bool true), (35, .bool true), (36, .agg #[.int .i64 b1, .int .i64 b2]), (37, .agg #[.int .i64 c1, .int .i64 c2]), (38, .bool false), (39, .bool false), (23, .bool false)]
                ⟨I.val 0, I.val 1, I.val 2, I.val 3, I.val 4, I.val 5, I.val 6, I.val 7, I.val 8, trivial⟩ rfl]
              have sW5 : W4.heap.size ≤ W5.heap.size := I.below.size
              replace ow4 := I.keep ow4 trivial
              replace ow5 := I.keep ow5 trivial
              replace ow6 := I.keep ow6 trivial
              replace ow7 := I.keep ow7 trivial
              replace ow14 := I.keep ow14 trivial
              have hW5 : Bel w.heap.size w W5 := thenB hW4 I.below hW4.size
              clear I
              simp only [List.foldl_cons, List.foldl_nil, List.setIfInBounds_toArray, List.set_cons_zero, List.set_cons_succ]
              rcases Bool.eq_false_or_eq_true (onB a1 a2 c1 c2 d1 d2) with t22 | t22
              · have t22_ := Lib.hid t22
                clear t22
                go_upto_region 8 with fail
                refine region_memo_f (B := W5.heap.size) (L := .val (.agg #[.int .i64 a1, .int .i64 a2]) :: .val (.agg #[.int .i64 c1, .int .i64 c2]) :: .val (.agg #[.int .i64 d1, .int .i64 d2]) :: .val (.bool true) :: .val (.bool true) :: []) (by kernel_rfl) (Nat.le_refl _) ((by exact trivial))
                  ⟨fun a w R => ld_P (R.slot 4 rfl) (R.keep ow4 trivial) rfl rfl, fun a w R => ld_P (R.slot 6 rfl) (R.keep ow6 trivial) rfl rfl, fun a w R => ld_P (R.slot 7 rfl) (R.keep ow7 trivial) rfl rfl, fun a w R => cl_ttt (enter_at Try.func99) (R.val 0) (R.val 1) (R.val 2) (On_is t22_.out _), fun a w R => asg (R.val 3), trivial⟩ (fun act_ W6 I => ?_)
                rw [I.act [(41, .agg #[.int .i64 a1, .int .i64 a2]), (42, .agg #[.int .i64 c1, .int .i64 c2]), (43, .agg #[.int .i64 d1, .int .i64 d2]), (44, .bool true), (40, .bool true)]
                  ⟨I.val 0, I.val 1, I.val 2, I.val 3, I.val 4, trivial⟩ rfl]
                have sW6 : W5.heap.size ≤ W6.heap.size := I.below.size
                replace ow4 := I.keep ow4 trivial
                replace ow5 := I.keep ow5 trivial
                replace ow6 := I.keep ow6 trivial
                replace ow7 := I.keep ow7 trivial
                replace ow14 := I.keep ow14 trivial
                have hW6 : Bel w.heap.size w W6 := thenB hW5 I.below hW5.size
                clear I
                simp only [List.foldl_cons, List.foldl_nil, List.setIfInBounds_toArray, List.set_cons_zero, List.set_cons_succ]
                go_upto_region 12 with fail
                refine region_memo_f (B := W6.heap.size) (L := .val (.bool true) :: []) (by kernel_rfl) (Nat.le_refl _) ((by exact trivial))
                  ⟨fun a w R => asc, trivial⟩ (fun act_ W7 I => ?_)
                rw [I.act [(8, .bool true)]
                  ⟨I.val 0, trivial⟩ rfl]
                have sW7 : W6.heap.size ≤ W7.heap.size := I.below.size
                replace ow4 := I.keep ow4 trivial
                replace ow5 := I.keep ow5 trivial
                replace ow6 := I.keep ow6 trivial
                replace ow7 := I.keep ow7 trivial
                replace ow14 := I.keep ow14 trivial
                have hW7 : Bel w.heap.size w W7 := thenB hW6 I.below hW6.size
                clear I
                simp only [List.foldl_cons, List.foldl_nil, List.setIfInBounds_toArray, List.set_cons_zero, List.set_cons_succ]
                clear ow4 ow5 ow6 ow7 ow14
                go_wp2
                try simp only [setCell_drawn]
                refine bodyPost_ret (by first | (simp [results, Try.results101, go_sem]; done) | (simp [results, Try.results101, go_sem]; rfl)) rfl ⟨?_, hW7⟩
                refine retb_eq ?_; simp only [mtB, t1_.out, t2_.out, t3_.out, t4_.out, t20_.out, t21_.out, t22_.out]; rfl
              · have t22_ := Lib.hid t22
                clear t22
                go_upto_region 8 with fail
                refine region_memo_f (B := W5.heap.size) (L := .val (.agg #[.int .i64 a1, .int .i64 a2]) :: .val (.agg #[.int .i64 c1, .int .i64 c2]) :: .val (.agg #[.int .i64 d1, .int .i64 d2]) :: .val (.bool false) :: .val (.bool false) :: []) (by kernel_rfl) (Nat.le_refl _) ((by exact trivial))
                  ⟨fun a w R => ld_P (R.slot 4 rfl) (R.keep ow4 trivial) rfl rfl, fun a w R => ld_P (R.slot 6 rfl) (R.keep ow6 trivial) rfl rfl, fun a w R => ld_P (R.slot 7 rfl) (R.keep ow7 trivial) rfl rfl, fun a w R => cl_ttt (enter_at Try.func99) (R.val 0) (R.val 1) (R.val 2) (On_is t22_.out _), fun a w R => asg (R.val 3), trivial⟩ (fun act_ W6 I => ?_)
                rw [I.act [(41, .agg #[.int .i64 a1, .int .i64 a2]), (42, .agg #[.int .i64 c1, .int .i64 c2]), (43, .agg #[.int .i64 d1, .int .i64 d2]), (44, .bool false), (40, .bool false)]
                  ⟨I.val 0, I.val 1, I.val 2, I.val 3, I.val 4, trivial⟩ rfl]
                have sW6 : W5.heap.size ≤ W6.heap.size := I.below.size
                replace ow4 := I.keep ow4 trivial
                replace ow5 := I.keep ow5 trivial
                replace ow6 := I.keep ow6 trivial
                replace ow7 := I.keep ow7 trivial
                replace ow14 := I.keep ow14 trivial
                have hW6 : Bel w.heap.size w W6 := thenB hW5 I.below hW5.size
                clear I
                simp only [List.foldl_cons, List.foldl_nil, List.setIfInBounds_toArray, List.set_cons_zero, List.set_cons_succ]
                rcases Bool.eq_false_or_eq_true (onB b1 b2 c1 c2 d1 d2) with t23 | t23
                · have t23_ := Lib.hid t23
                  clear t23
                  go_upto_region 9 with fail
                  refine region_memo_f (B := W6.heap.size) (L := .val (.agg #[.int .i64 b1, .int .i64 b2]) :: .val (.agg #[.int .i64 c1, .int .i64 c2]) :: .val (.agg #[.int .i64 d1, .int .i64 d2]) :: .val (.bool true) :: .val (.bool true) :: []) (by kernel_rfl) (Nat.le_refl _) ((by exact trivial))
                    ⟨fun a w R => ld_P (R.slot 5 rfl) (R.keep ow5 trivial) rfl rfl, fun a w R => ld_P (R.slot 6 rfl) (R.keep ow6 trivial) rfl rfl, fun a w R => ld_P (R.slot 7 rfl) (R.keep ow7 trivial) rfl rfl, fun a w R => cl_ttt (enter_at Try.func99) (R.val 0) (R.val 1) (R.val 2) (On_is t23_.out _), fun a w R => asg (R.val 3), trivial⟩ (fun act_ W7 I => ?_)
                  rw [I.act [(45, .agg #[.int .i64 b1, .int .i64 b2]), (46, .agg #[.int .i64 c1, .int .i64 c2]), (47, .agg #[.int .i64 d1, .int .i64 d2]), (48, .bool true), (40, .bool true)]
                    ⟨I.val 0, I.val 1, I.val 2, I.val 3, I.val 4, trivial⟩ rfl]
                  have sW7 : W6.heap.size ≤ W7.heap.size := I.below.size
                  replace ow4 := I.keep ow4 trivial
                  replace ow5 := I.keep ow5 trivial
                  replace ow6 := I.keep ow6 trivial
                  replace ow7 := I.keep ow7 trivial
                  replace ow14 := I.keep ow14 trivial
                  have hW7 : Bel w.heap.size w W7 := thenB hW6 I.below hW6.size
                  clear I
                  simp only [List.foldl_cons, List.foldl_nil, List.setIfInBounds_toArray, List.set_cons_zero, List.set_cons_succ]
                  go_upto_region 12 with fail
                  refine region_memo_f (B := W7.heap.size) (L := .val (.bool true) :: []) (by kernel_rfl) (Nat.le_refl _) ((by exact trivial))
                    ⟨fun a w R => asc, trivial⟩ (fun act_ W8 I => ?_)
                  rw [I.act [(8, .bool true)]
                    ⟨I.val 0, trivial⟩ rfl]
                  have sW8 : W7.heap.size ≤ W8.heap.size := I.below.size
                  replace ow4 := I.keep ow4 trivial
                  replace ow5 := I.keep ow5 trivial
                  replace ow6 := I.keep ow6 trivial
                  replace ow7 := I.keep ow7 trivial
                  replace ow14 := I.keep ow14 trivial
                  have hW8 : Bel w.heap.size w W8 := thenB hW7 I.below hW7.size
                  clear I
                  simp only [List.foldl_cons, List.foldl_nil, List.setIfInBounds_toArray, List.set_cons_zero, List.set_cons_succ]
                  clear ow4 ow5 ow6 ow7 ow14
                  go_wp2
                  try simp only [setCell_drawn]
                  refine bodyPost_ret (by first | (simp [results, Try.results101, go_sem]; done) | (simp [results, Try.results101, go_sem]; rfl)) rfl ⟨?_, hW8⟩
                  refine retb_eq ?_; simp only [mtB, t1_.out, t2_.out, t3_.out, t4_.out, t20_.out, t21_.out, t22_.out, t23_.out]; rfl
                · have t23_ := Lib.hid t23
                  clear t23
                  go_upto_region 9 with fail
                  refine region_memo_f (B := W6.heap.size) (L := .val (.agg #[.int .i64 b1, .int .i64 b2]) :: .val (.agg #[.int .i64 c1, .int .i64 c2]) :: .val (.agg #[.int .i64 d1, .int .i64 d2]) :: .val (.bool false) :: .val (.bool false) :: []) (by kernel_rfl) (Nat.le_refl _) ((by exact trivial))
                    ⟨fun a w R => ld_P (R.slot 5 rfl) (R.keep ow5 trivial) rfl rfl, fun a w R => ld_P (R.slot 6 rfl) (R.keep ow6 trivial) rfl rfl, fun a w R => ld_P (R.slot 7 rfl) (R.keep ow7 trivial) rfl rfl, fun a w R => cl_ttt (enter_at Try.func99) (R.val 0) (R.val 1) (R.val 2) (On_is t23_.out _), fun a w R => asg (R.val 3), trivial⟩ (fun act_ W7 I => ?_)
                  rw [I.act [(45, .agg #[.int .i64 b1, .int .i64 b2]), (46, .agg #[.int .i64 c1, .int .i64 c2]), (47, .agg #[.int .i64 d1, .int .i64 d2]), (48, .bool false), (40, .bool false)]
                    ⟨I.val 0, I.val 1, I.val 2, I.val 3, I.val 4, trivial⟩ rfl]
                  have sW7 : W6.heap.size ≤ W7.heap.size := I.below.size
                  replace ow4 := I.keep ow4 trivial
                  replace ow5 := I.keep ow5 trivial
                  replace ow6 := I.keep ow6 trivial
                  replace ow7 := I.keep ow7 trivial
                  replace ow14 := I.keep ow14 trivial
                  have hW7 : Bel w.heap.size w W7 := thenB hW6 I.below hW6.size
                  clear I
                  simp only [List.foldl_cons, List.foldl_nil, List.setIfInBounds_toArray, List.set_cons_zero, List.set_cons_succ]
                  rcases Bool.eq_false_or_eq_true (onB c1 c2 a1 a2 b1 b2) with t24 | t24
                  · have t24_ := Lib.hid t24
                    clear t24
                    go_upto_region 10 with fail
                    refine region_memo_f (B := W7.heap.size) (L := .val (.agg #[.int .i64 c1, .int .i64 c2]) :: .val (.agg #[.int .i64 a1, .int .i64 a2]) :: .val (.agg #[.int .i64 b1, .int .i64 b2]) :: .val (.bool true) :: .val (.bool true) :: []) (by kernel_rfl) (Nat.le_refl _) ((by exact trivial))
                      ⟨fun a w R => ld_P (R.slot 6 rfl) (R.keep ow6 trivial) rfl rfl, fun a w R => ld_P (R.slot 4 rfl) (R.keep ow4 trivial) rfl rfl, fun a w R => ld_P (R.slot 5 rfl) (R.keep ow5 trivial) rfl rfl, fun a w R => cl_ttt (enter_at Try.func99) (R.val 0) (R.val 1) (R.val 2) (On_is t24_.out _), fun a w R => asg (R.val 3), trivial⟩ (fun act_ W8 I => ?_)
                    rw [I.act [(49, .agg #[.int .i64 c1, .int .i64 c2]), (50, .agg #[.int .i64 a1, .int .i64 a2]), (51, .agg #[.int .i64 b1, .int .i64 b2]), (52, .bool true), (40, .bool true)]
                      ⟨I.val 0, I.val 1, I.val 2, I.val 3, I.val 4, trivial⟩ rfl]
                    have sW8 : W7.heap.size ≤ W8.heap.size := I.below.size
                    replace ow4 := I.keep ow4 trivial
                    replace ow5 := I.keep ow5 trivial
                    replace ow6 := I.keep ow6 trivial
                    replace ow7 := I.keep ow7 trivial
                    replace ow14 := I.keep ow14 trivial
                    have hW8 : Bel w.heap.size w W8 := thenB hW7 I.below hW7.size
                    clear I
                    simp only [List.foldl_cons, List.foldl_nil, List.setIfInBounds_toArray, List.set_cons_zero, List.set_cons_succ]
                    go_upto_region 12 with fail
                    refine region_memo_f (B := W8.heap.size) (L := .val (.bool true) :: []) (by kernel_rfl) (Nat.le_refl _) ((by exact trivial))
                      ⟨fun a w R => asc, trivial⟩ (fun act_ W9 I => ?_)
                    rw [I.act [(8, .bool true)]
                      ⟨I.val 0, trivial⟩ rfl]
                    have sW9 : W8.heap.size ≤ W9.heap.size := I.below.size
                    replace ow4 := I.keep ow4 trivial
                    replace ow5 := I.keep ow5 trivial
                    replace ow6 := I.keep ow6 trivial
                    replace ow7 := I.keep ow7 trivial
                    replace ow14 := I.keep ow14 trivial
                    have hW9 : Bel w.heap.size w W9 := thenB hW8 I.below hW8.size
                    clear I
                    simp only [List.foldl_cons, List.foldl_nil, List.setIfInBounds_toArray, List.set_cons_zero, List.set_cons_succ]
                    clear ow4 ow5 ow6 ow7 ow14
                    go_wp2
                    try simp only [setCell_drawn]
                    refine bodyPost_ret (by first | (simp [results, Try.results101, go_sem]; done) | (simp [results, Try.results101, go_sem]; rfl)) rfl ⟨?_, hW9⟩
                    refine retb_eq ?_; simp only [mtB, t1_.out, t2_.out, t3_.out, t4_.out, t20_.out, t21_.out, t22_.out, t23_.out, t24_.out]; rfl
                  · have t24_ := Lib.hid t24
                    clear t24
                    go_upto_region 10 with fail
                    refine region_memo_f (B := W7.heap.size) (L := .val (.agg #[.int .i64 c1, .int .i64 c2]) :: .val (.agg #[.int .i64 a1, .int .i64 a2]) :: .val (.agg #[.int .i64 b1, .int .i64 b2]) :: .val (.bool false) :: .val (.bool false) :: []) (by kernel_rfl) (Nat.le_refl _) ((by exact trivial))
                      ⟨fun a w R => ld_P (R.slot 6 rfl) (R.keep ow6 trivial) rfl rfl, fun a w R => ld_P (R.slot 4 rfl) (R.keep ow4 trivial) rfl rfl, fun a w R => ld_P (R.slot 5 rfl) (R.keep ow5 trivial) rfl rfl, fun a w R => cl_ttt (enter_at Try.func99) (R.val 0) (R.val 1) (R.val 2) (On_is t24_.out _), fun a w R => asg (R.val 3), trivial⟩ (fun act_ W8 I => ?_)
                    rw [I.act [(49, .agg #[.int .i64 c1, .int .i64 c2]), (50, .agg #[.int .i64 a1, .int .i64 a2]), (51, .agg #[.int .i64 b1, .int .i64 b2]), (52, .bool false), (40, .bool false)]
                      ⟨I.val 0, I.val 1, I.val 2, I.val 3, I.val 4, trivial⟩ rfl]
                    have sW8 : W7.heap.size ≤ W8.heap.size := I.below.size
                    replace ow4 := I.keep ow4 trivial
                    replace ow5 := I.keep ow5 trivial
                    replace ow6 := I.keep ow6 trivial
                    replace ow7 := I.keep ow7 trivial
                    replace ow14 := I.keep ow14 trivial
                    have hW8 : Bel w.heap.size w W8 := thenB hW7 I.below hW7.size
                    clear I
                    simp only [List.foldl_cons, List.foldl_nil, List.setIfInBounds_toArray, List.set_cons_zero, List.set_cons_succ]
                    rcases Bool.eq_false_or_eq_true (onB d1 d2 a1 a2 b1 b2) with t25 | t25
                    · have t25_ := Lib.hid t25
                      clear t25
                      go_upto_region 11 with fail
                      refine region_memo_f (B := W8.heap.size) (L := .val (.agg #[.int .i64 d1, .int .i64 d2]) :: .val (.agg #[.int .i64 a1, .int .i64 a2]) :: .val (.agg #[.int .i64 b1, .int .i64 b2]) :: .val (.bool true) :: .val (.bool true) :: []) (by kernel_rfl) (Nat.le_refl _) ((by exact trivial))
                        ⟨fun a w R => ld_P (R.slot 7 rfl) (R.keep ow7 trivial) rfl rfl, fun a w R => ld_P (R.slot 4 rfl) (R.keep ow4 trivial) rfl rfl, fun a w R => ld_P (R.slot 5 rfl) (R.keep ow5 trivial) rfl rfl, fun a w R => cl_ttt (enter_at Try.func99) (R.val 0) (R.val 1) (R.val 2) (On_is t25_.out _), fun a w R => asg (R.val 3), trivial⟩ (fun act_ W9 I => ?_)
                      rw [I.act [(53, .agg #[.int .i64 d1, .int .i64 d2]), (54, .agg #[.int .i64 a1, .int .i64 a2]), (55, .agg #[.int .i64 b1, .int .i64 b2]), (56, .bool true), (40, .bool true)]
                        ⟨I.val 0, I.val 1, I.val 2, I.val 3, I.val 4, trivial⟩ rfl]
                      have sW9 : W8.heap.size ≤ W9.heap.size := I.below.size
                      replace ow4 := I.keep ow4 trivial
                      replace ow5 := I.keep ow5 trivial
                      replace ow6 := I.keep ow6 trivial
                      replace ow7 := I.keep ow7 trivial
                      replace ow14 := I.keep ow14 trivial
                      have hW9 : Bel w.heap.size w W9 := thenB hW8 I.below hW8.size
                      clear I
                      simp only [List.foldl_cons, List.foldl_nil, List.setIfInBounds_toArray, List.set_cons_zero, List.set_cons_succ]
                      go_upto_region 12 with fail
                      refine region_memo_f (B := W9.heap.size) (L := .val (.bool true) :: []) (by kernel_rfl) (Nat.le_refl _) ((by exact trivial))
                        ⟨fun a w R => asc, trivial⟩ (fun act_ W10 I => ?_)
                      rw [I.act [(8, .bool true)]
                        ⟨I.val 0, trivial⟩ rfl]
                      have sW10 : W9.heap.size ≤ W10.heap.size := I.below.size
                      replace ow4 := I.keep ow4 trivial
                      replace ow5 := I.keep ow5 trivial
                      replace ow6 := I.keep ow6 trivial
                      replace ow7 := I.keep ow7 trivial
                      replace ow14 := I.keep ow14 trivial
                      have hW10 : Bel w.heap.size w W10 := thenB hW9 I.below hW9.size
                      clear I
                      simp only [List.foldl_cons, List.foldl_nil, List.setIfInBounds_toArray, List.set_cons_zero, List.set_cons_succ]
                      clear ow4 ow5 ow6 ow7 ow14
                      go_wp2
                      try simp only [setCell_drawn]
                      refine bodyPost_ret (by first | (simp [results, Try.results101, go_sem]; done) | (simp [results, Try.results101, go_sem]; rfl)) rfl ⟨?_, hW10⟩
                      refine retb_eq ?_; simp only [mtB, t1_.out, t2_.out, t3_.out, t4_.out, t20_.out, t21_.out, t22_.out, t23_.out, t24_.out, t25_.out]; rfl
                    · have t25_ := Lib.hid t25
                      clear t25
                      go_upto_region 11 with fail
                      refine region_memo_f (B := W8.heap.size) (L := .val (.agg #[.int .i64 d1, .int .i64 d2]) :: .val (.agg #[.int .i64 a1, .int .i64 a2]) :: .val (.agg #[.int .i64 b1, .int .i64 b2]) :: .val (.bool false) :: .val (.bool false) :: []) (by kernel_rfl) (Nat.le_refl _) ((by exact trivial))
                        ⟨fun a w R => ld_P (R.slot 7 rfl) (R.keep ow7 trivial) rfl rfl, fun a w R => ld_P (R.slot 4 rfl) (R.keep ow4 trivial) rfl rfl, fun a w R => ld_P (R.slot 5 rfl) (R.keep ow5 trivial) rfl rfl, fun a w R => cl_ttt (enter_at Try.func99) (R.val 0) (R.val 1) (R.val 2) (On_is t25_.out _), fun a w R => asg (R.val 3), trivial⟩ (fun act_ W9 I => ?_)
                      rw [I.act [(53, .agg #[.int .i64 d1, .int .i64 d2]), (54, .agg #[.int .i64 a1, .int .i64 a2]), (55, .agg #[.int .i64 b1, .int .i64 b2]), (56, .bool false), (40, .bool false)]
                        ⟨I.val 0, I.val 1, I.val 2, I.val 3, I.val 4, trivial⟩ rfl]
                      have sW9 : W8.heap.size ≤ W9.heap.size := I.below.size
                      replace ow4 := I.keep ow4 trivial
                      replace ow5 := I.keep ow5 trivial
                      replace ow6 := I.keep ow6 trivial
                      replace ow7 := I.keep ow7 trivial
                      replace ow14 := I.keep ow14 trivial
                      have hW9 : Bel w.heap.size w W9 := thenB hW8 I.below hW8.size
                      clear I
                      simp only [List.foldl_cons, List.foldl_nil, List.setIfInBounds_toArray, List.set_cons_zero, List.set_cons_succ]
                      rcases Bool.eq_false_or_eq_true (ptB a1 a2 b1 b2 c1 c2 d1 d2) with t26 | t26
                      · have t26_ := Lib.hid t26
                        clear t26
                        rcases Bool.eq_false_or_eq_true (ptB c1 c2 d1 d2 a1 a2 b1 b2) with t27 | t27
                        · have t27_ := Lib.hid t27
                          clear t27
                          go_upto_region 13 with fail
                          refine region_memo_f (B := W9.heap.size) (L := .val (.agg #[.int .i64 a1, .int .i64 a2]) :: .val (.agg #[.int .i64 b1, .int .i64 b2]) :: .val (.agg #[.int .i64 c1, .int .i64 c2]) :: .val (.agg #[.int .i64 d1, .int .i64 d2]) :: .val (.bool true) :: .val (.bool true) :: .val (.agg #[.int .i64 c1, .int .i64 c2]) :: .val (.agg #[.int .i64 d1, .int .i64 d2]) :: .val (.agg #[.int .i64 a1, .int .i64 a2]) :: .val (.agg #[.int .i64 b1, .int .i64 b2]) :: .val (.bool true) :: .val (.bool true) :: .val (.bool true) :: []) (by kernel_rfl) (Nat.le_refl _) ((by exact trivial))
                            ⟨fun a w R => ld_P (R.slot 4 rfl) (R.keep ow4 trivial) rfl rfl, fun a w R => ld_P (R.slot 5 rfl) (R.keep ow5 trivial) rfl rfl, fun a w R => ld_P (R.slot 6 rfl) (R.keep ow6 trivial) rfl rfl, fun a w R => ld_P (R.slot 7 rfl) (R.keep ow7 trivial) rfl rfl, fun a w R => cl_tttt (enter_at Try.func115) (R.val 0) (R.val 1) (R.val 2) (R.val 3) (parts_is t26_.out (in4_iff.2 ⟨(in4_iff.1 t1_.out).1, (in4_iff.1 t1_.out).2.1, (in4_iff.1 t1_.out).2.2.1, (in4_iff.1 t1_.out).2.2.2⟩) _), fun a w R => mv (R.val 4), fun a w R => ld_P (R.slot 6 rfl) (R.keep ow6 trivial) rfl rfl, fun a w R => ld_P (R.slot 7 rfl) (R.keep ow7 trivial) rfl rfl, fun a w R => ld_P (R.slot 4 rfl) (R.keep ow4 trivial) rfl rfl, fun a w R => ld_P (R.slot 5 rfl) (R.keep ow5 trivial) rfl rfl, fun a w R => cl_tttt (enter_at Try.func115) (R.val 6) (R.val 7) (R.val 8) (R.val 9) (parts_is t27_.out (in4_iff.2 ⟨(in4_iff.1 t1_.out).2.2.1, (in4_iff.1 t1_.out).2.2.2, (in4_iff.1 t1_.out).1, (in4_iff.1 t1_.out).2.1⟩) _), fun a w R => pickt (R.val 5) (R.val 10), fun a w R => asg (R.val 11), trivial⟩ (fun act_ W10 I => ?_)
                          rw [I.act [(57, .agg #[.int .i64 a1, .int .i64 a2]), (58, .agg #[.int .i64 b1, .int .i64 b2]), (59, .agg #[.int .i64 c1, .int .i64 c2]), (60, .agg #[.int .i64 d1, .int .i64 d2]), (61, .bool true), (62, .bool true), (63, .agg #[.int .i64 c1, .int .i64 c2]), (64, .agg #[.int .i64 d1, .int .i64 d2]), (65, .agg #[.int .i64 a1, .int .i64 a2]), (66, .agg #[.int .i64 b1, .int .i64 b2]), (67, .bool true), (68, .bool true), (8, .bool true)]
                            ⟨I.val 0, I.val 1, I.val 2, I.val 3, I.val 4, I.val 5, I.val 6, I.val 7, I.val 8, I.val 9, I.val 10, I.val 11, I.val 12, trivial⟩ rfl]
                          have sW10 : W9.heap.size ≤ W10.heap.size := I.below.size
                          replace ow4 := I.keep ow4 trivial
                          replace ow5 := I.keep ow5 trivial
                          replace ow6 := I.keep ow6 trivial
                          replace ow7 := I.keep ow7 trivial
                          replace ow14 := I.keep ow14 trivial
                          have hW10 : Bel w.heap.size w W10 := thenB hW9 I.below hW9.size
                          clear I
                          simp only [List.foldl_cons, List.foldl_nil, List.setIfInBounds_toArray, List.set_cons_zero, List.set_cons_succ]
                          clear ow4 ow5 ow6 ow7 ow14
                          go_wp2
                          try simp only [setCell_drawn]
                          refine bodyPost_ret (by first | (simp [results, Try.results101, go_sem]; done) | (simp [results, Try.results101, go_sem]; rfl)) rfl ⟨?_, hW10⟩
                          refine retb_eq ?_; simp only [mtB, t1_.out, t2_.out, t3_.out, t4_.out, t20_.out, t21_.out, t22_.out, t23_.out, t24_.out, t25_.out, t26_.out, t27_.out]; rfl
                        · have t27_ := Lib.hid t27
                          clear t27
                          go_upto_region 13 with fail
                          refine region_memo_f (B := W9.heap.size) (L := .val (.agg #[.int .i64 a1, .int .i64 a2]) :: .val (.agg #[.int .i64 b1, .int .i64 b2]) :: .val (.agg #[.int .i64 c1, .int .i64 c2]) :: .val (.agg #[.int .i64 d1, .int .i64 d2]) :: .val (.bool true) :: .val (.bool true) :: .val (.agg #[.int .i64 c1, .int .i64 c2]) :: .val (.agg #[.int .i64 d1, .int .i64 d2]) :: .val (.agg #[.int .i64 a1, .int .i64 a2]) :: .val (.agg #[.int .i64 b1, .int .i64 b2]) :: .val (.bool false) :: .val (.bool false) :: .val (.bool false) :: []) (by kernel_rfl) (Nat.le_refl _) ((by exact trivial))
                            ⟨fun a w R => ld_P (R.slot 4 rfl) (R.keep ow4 trivial) rfl rfl, fun a w R => ld_P (R.slot 5 rfl) (R.keep ow5 trivial) rfl rfl, fun a w R => ld_P (R.slot 6 rfl) (R.keep ow6 trivial) rfl rfl, fun a w R => ld_P (R.slot 7 rfl) (R.keep ow7 trivial) rfl rfl, fun a w R => cl_tttt (enter_at Try.func115) (R.val 0) (R.val 1) (R.val 2) (R.val 3) (parts_is t26_.out (in4_iff.2 ⟨(in4_iff.1 t1_.out).1, (in4_iff.1 t1_.out).2.1, (in4_iff.1 t1_.out).2.2.1, (in4_iff.1 t1_.out).2.2.2⟩) _), fun a w R => mv (R.val 4), fun a w R => ld_P (R.slot 6 rfl) (R.keep ow6 trivial) rfl rfl, fun a w R => ld_P (R.slot 7 rfl) (R.keep ow7 trivial) rfl rfl, fun a w R => ld_P (R.slot 4 rfl) (R.keep ow4 trivial) rfl rfl, fun a w R => ld_P (R.slot 5 rfl) (R.keep ow5 trivial) rfl rfl, fun a w R => cl_tttt (enter_at Try.func115) (R.val 6) (R.val 7) (R.val 8) (R.val 9) (parts_is t27_.out (in4_iff.2 ⟨(in4_iff.1 t1_.out).2.2.1, (in4_iff.1 t1_.out).2.2.2, (in4_iff.1 t1_.out).1, (in4_iff.1 t1_.out).2.1⟩) _), fun a w R => pickt (R.val 5) (R.val 10), fun a w R => asg (R.val 11), trivial⟩ (fun act_ W10 I => ?_)
                          rw [I.act [(57, .agg #[.int .i64 a1, .int .i64 a2]), (58, .agg #[.int .i64 b1, .int .i64 b2]), (59, .agg #[.int .i64 c1, .int .i64 c2]), (60, .agg #[.int .i64 d1, .int .i64 d2]), (61, .bool true), (62, .bool true), (63, .agg #[.int .i64 c1, .int .i64 c2]), (64, .agg #[.int .i64 d1, .int .i64 d2]), (65, .agg #[.int .i64 a1, .int .i64 a2]), (66, .agg #[.int .i64 b1, .int .i64 b2]), (67, .bool false), (68, .bool false), (8, .bool false)]
                            ⟨I.val 0, I.val 1, I.val 2, I.val 3, I.val 4, I.val 5, I.val 6, I.val 7, I.val 8, I.val 9, I.val 10, I.val 11, I.val 12, trivial⟩ rfl]
                          have sW10 : W9.heap.size ≤ W10.heap.size := I.below.size
                          replace ow4 := I.keep ow4 trivial
                          replace ow5 := I.keep ow5 trivial
                          replace ow6 := I.keep ow6 trivial
                          replace ow7 := I.keep ow7 trivial
                          replace ow14 := I.keep ow14 trivial
                          have hW10 : Bel w.heap.size w W10 := thenB hW9 I.below hW9.size
                          clear I
                          simp only [List.foldl_cons, List.foldl_nil, List.setIfInBounds_toArray, List.set_cons_zero, List.set_cons_succ]
                          clear ow4 ow5 ow6 ow7 ow14
                          go_wp2
                          try simp only [setCell_drawn]
                          refine bodyPost_ret (by first | (simp [results, Try.results101, go_sem]; done) | (simp [results, Try.results101, go_sem]; rfl)) rfl ⟨?_, hW10⟩
                          refine retb_eq ?_; simp only [mtB, t1_.out, t2_.out, t3_.out, t4_.out, t20_.out, t21_.out, t22_.out, t23_.out, t24_.out, t25_.out, t26_.out, t27_.out]; rfl
                      · have t26_ := Lib.hid t26
                        clear t26
                        go_upto_region 13 with fail
                        refine region_memo_f (B := W9.heap.size) (L := .val (.agg #[.int .i64 a1, .int .i64 a2]) :: .val (.agg #[.int .i64 b1, .int .i64 b2]) :: .val (.agg #[.int .i64 c1, .int .i64 c2]) :: .val (.agg #[.int .i64 d1, .int .i64 d2]) :: .val (.bool false) :: .val (.bool false) :: .skip :: .skip :: .skip :: .skip :: .skip :: .val (.bool false) :: .val (.bool false) :: []) (by kernel_rfl) (Nat.le_refl _) ((by exact trivial))
                          ⟨fun a w R => ld_P (R.slot 4 rfl) (R.keep ow4 trivial) rfl rfl, fun a w R => ld_P (R.slot 5 rfl) (R.keep ow5 trivial) rfl rfl, fun a w R => ld_P (R.slot 6 rfl) (R.keep ow6 trivial) rfl rfl, fun a w R => ld_P (R.slot 7 rfl) (R.keep ow7 trivial) rfl rfl, fun a w R => cl_tttt (enter_at Try.func115) (R.val 0) (R.val 1) (R.val 2) (R.val 3) (parts_is t26_.out (in4_iff.2 ⟨(in4_iff.1 t1_.out).1, (in4_iff.1 t1_.out).2.1, (in4_iff.1 t1_.out).2.2.1, (in4_iff.1 t1_.out).2.2.2⟩) _), fun a w R => mv (R.val 4), fun a w R => True.intro, fun a w R => True.intro, fun a w R => True.intro, fun a w R => True.intro, fun a w R => True.intro, fun a w R => pickf (R.val 5) (R.goneS 10), fun a w R => asg (R.val 11), trivial⟩ (fun act_ W10 I => ?_)
                        rw [I.act [(57, .agg #[.int .i64 a1, .int .i64 a2]), (58, .agg #[.int .i64 b1, .int .i64 b2]), (59, .agg #[.int .i64 c1, .int .i64 c2]), (60, .agg #[.int .i64 d1, .int .i64 d2]), (61, .bool false), (62, .bool false), (63, undef), (64, undef), (65, undef), (66, undef), (67, undef), (68, .bool false), (8, .bool false)]
                          ⟨I.val 0, I.val 1, I.val 2, I.val 3, I.val 4, I.val 5, I.gone 6, I.gone 7, I.gone 8, I.gone 9, I.gone 10, I.val 11, I.val 12, trivial⟩ rfl]
                        have sW10 : W9.heap.size ≤ W10.heap.size := I.below.size
                        replace ow4 := I.keep ow4 trivial
                        replace ow5 := I.keep ow5 trivial
                        replace ow6 := I.keep ow6 trivial
                        replace ow7 := I.keep ow7 trivial
                        replace ow14 := I.keep ow14 trivial
                        have hW10 : Bel w.heap.size w W10 := thenB hW9 I.below hW9.size
                        clear I
                        simp only [List.foldl_cons, List.foldl_nil, List.setIfInBounds_toArray, List.set_cons_zero, List.set_cons_succ]
                        clear ow4 ow5 ow6 ow7 ow14
                        go_wp2
                        try simp only [setCell_drawn]
                        refine bodyPost_ret (by first | (simp [results, Try.results101, go_sem]; done) | (simp [results, Try.results101, go_sem]; rfl)) rfl ⟨?_, hW10⟩
                        refine retb_eq ?_; simp only [mtB, t1_.out, t2_.out, t3_.out, t4_.out, t20_.out, t21_.out, t22_.out, t23_.out, t24_.out, t25_.out, t26_.out]; rfl
          · have t20_ := Lib.hid t20
            clear t20
            go_upto_region 6 with fail
            refine region_memo_f (B := W4.heap.size) (L := .val (.agg #[.int .i64 a1, .int .i64 a2]) :: .val (.agg #[.int .i64 d1, .int .i64 d2]) :: .val (.bool false) :: .val (.bool false) :: .skip :: .skip :: .skip :: .val (.bool false) :: .val (.bool false) :: []) (by kernel_rfl) (Nat.le_refl _) ((by exact trivial))
              ⟨fun a w R => ld_P (R.slot 4 rfl) (R.keep ow4 trivial) rfl rfl, fun a w R => ld_P (R.slot 7 rfl) (R.keep ow7 trivial) rfl rfl, fun a w R => (e_eql_P (R.val 0) (R.val 1) ((fun w => (eq_Point _ _ _ _ w).trans (by rw [t20_.out])))), fun a w R => mv (R.val 2), fun a w R => True.intro, fun a w R => True.intro, fun a w R => True.intro, fun a w R => pickf (R.val 3) (R.goneS 6), fun a w R => asg (R.val 7), trivial⟩ (fun act_ W5 I => ?_)
            rw [I.act [(32, .agg #[.int .i64 a1, .int .i64 a2]), (33, .agg #[.int .i64 d1, .int .i64 d2]), (34, .bool false), (35, .bool false), (36, undef), (37, undef), (38, undef), (39, .bool false), (23, .bool false)]
              ⟨I.val 0, I.val 1, I.val 2, I.val 3, I.gone 4, I.gone 5, I.gone 6, I.val 7, I.val 8, trivial⟩ rfl]
            have sW5 : W4.heap.size ≤ W5.heap.size := I.below.size
            replace ow4 := I.keep ow4 trivial
            replace ow5 := I.keep ow5 trivial
            replace ow6 := I.keep ow6 trivial
            replace ow7 := I.keep ow7 trivial
            replace ow14 := I.keep ow14 trivial
            have hW5 : Bel w.heap.size w W5 := thenB hW4 I.below hW4.size
            clear I
            simp only [List.foldl_cons, List.foldl_nil, List.setIfInBounds_toArray, List.set_cons_zero, List.set_cons_succ]
            rcases Bool.eq_false_or_eq_true (onB a1 a2 c1 c2 d1 d2) with t28 | t28
            · have t28_ := Lib.hid t28
              clear t28
              go_upto_region 8 with fail
              refine region_memo_f (B := W5.heap.size) (L := .val (.agg #[.int .i64 a1, .int .i64 a2]) :: .val (.agg #[.int .i64 c1, .int .i64 c2]) :: .val (.agg #[.int .i64 d1, .int .i64 d2]) :: .val (.bool true) :: .val (.bool true) :: []) (by kernel_rfl) (Nat.le_refl _) ((by exact trivial))
                ⟨fun a w R => ld_P (R.slot 4 rfl) (R.keep ow4 trivial) rfl rfl, fun a w R => ld_P (R.slot 6 rfl) (R.keep ow6 trivial) rfl rfl, fun a w R => ld_P (R.slot 7 rfl) (R.keep ow7 trivial) rfl rfl, fun a w R => cl_ttt (enter_at Try.func99) (R.val 0) (R.val 1) (R.val 2) (On_is t28_.out _), fun a w R => asg (R.val 3), trivial⟩ (fun act_ W6 I => ?_)
              rw [I.act [(41, .agg #[.int .i64 a1, .int .i64 a2]), (42, .agg #[.int .i64 c1, .int .i64 c2]), (43, .agg #[.int .i64 d1, .int .i64 d2]), (44, .bool true), (40, .bool true)]
                ⟨I.val 0, I.val 1, I.val 2, I.val 3, I.val 4, trivial⟩ rfl]
              have sW6 : W5.heap.size ≤ W6.heap.size := I.below.size
              replace ow4 := I.keep ow4 trivial
              replace ow5 := I.keep ow5 trivial
              replace ow6 := I.keep ow6 trivial
              replace ow7 := I.keep ow7 trivial
              replace ow14 := I.keep ow14 trivial
              have hW6 : Bel w.heap.size w W6 := thenB hW5 I.below hW5.size
              clear I
              simp only [List.foldl_cons, List.foldl_nil, List.setIfInBounds_toArray, List.set_cons_zero, List.set_cons_succ]
              go_upto_region 12 with fail
              refine region_memo_f (B := W6.heap.size) (L := .val (.bool true) :: []) (by kernel_rfl) (Nat.le_refl _) ((by exact trivial))
                ⟨fun a w R => asc, trivial⟩ (fun act_ W7 I => ?_)
              rw [I.act [(8, .bool true)]
                ⟨I.val 0, trivial⟩ rfl]
              have sW7 : W6.heap.size ≤ W7.heap.size := I.below.size
              replace ow4 := I.keep ow4 trivial
              replace ow5 := I.keep ow5 trivial
              replace ow6 := I.keep ow6 trivial
              replace ow7 := I.keep ow7 trivial
              replace ow14 := I.keep ow14 trivial
              have hW7 : Bel w.heap.size w W7 := thenB hW6 I.below hW6.size
              clear I
              simp only [List.foldl_cons, List.foldl_nil, List.setIfInBounds_toArray, List.set_cons_zero, List.set_cons_succ]
              clear ow4 ow5 ow6 ow7 ow14
              go_wp2
              try simp only [setCell_drawn]
              refine bodyPost_ret (by first | (simp [results, Try.results101, go_sem]; done) | (simp [results, Try.results101, go_sem]; rfl)) rfl ⟨?_, hW7⟩
              refine retb_eq ?_; simp only [mtB, t1_.out, t2_.out, t3_.out, t4_.out, t20_.out, t28_.out]; rfl
            · have t28_ := Lib.hid t28
              clear t28
              go_upto_region 8 with fail
              refine region_memo_f (B := W5.heap.size) (L := .val (.agg #[.int .i64 a1, .int .i64 a2]) :: .val (.agg #[.int .i64 c1, .int .i64 c2]) :: .val (.agg #[.int .i64 d1, .int .i64 d2]) :: .val (.bool false) :: .val (.bool false) :: []) (by kernel_rfl) (Nat.le_refl _) ((by exact trivial))
                ⟨fun a w R => ld_P (R.slot 4 rfl) (R.keep ow4 trivial) rfl rfl, fun a w R => ld_P (R.slot 6 rfl) (R.keep ow6 trivial) rfl rfl, fun a w R => ld_P (R.slot 7 rfl) (R.keep ow7 trivial) rfl rfl, fun a w R => cl_ttt (enter_at Try.func99) (R.val 0) (R.val 1) (R.val 2) (On_is t28_.out _), fun a w R => asg (R.val 3), trivial⟩ (fun act_ W6 I => ?_)
              rw [I.act [(41, .agg #[.int .i64 a1, .int .i64 a2]), (42, .agg #[.int .i64 c1, .int .i64 c2]), (43, .agg #[.int .i64 d1, .int .i64 d2]), (44, .bool false), (40, .bool false)]
                ⟨I.val 0, I.val 1, I.val 2, I.val 3, I.val 4, trivial⟩ rfl]
              have sW6 : W5.heap.size ≤ W6.heap.size := I.below.size
              replace ow4 := I.keep ow4 trivial
              replace ow5 := I.keep ow5 trivial
              replace ow6 := I.keep ow6 trivial
              replace ow7 := I.keep ow7 trivial
              replace ow14 := I.keep ow14 trivial
              have hW6 : Bel w.heap.size w W6 := thenB hW5 I.below hW5.size
              clear I
              simp only [List.foldl_cons, List.foldl_nil, List.setIfInBounds_toArray, List.set_cons_zero, List.set_cons_succ]
              rcases Bool.eq_false_or_eq_true (onB b1 b2 c1 c2 d1 d2) with t29 | t29
              · have t29_ := Lib.hid t29
                clear t29
                go_upto_region 9 with fail
                refine region_memo_f (B := W6.heap.size) (L := .val (.agg #[.int .i64 b1, .int .i64 b2]) :: .val (.agg #[.int .i64 c1, .int .i64 c2]) :: .val (.agg #[.int .i64 d1, .int .i64 d2]) :: .val (.bool true) :: .val (.bool true) :: []) (by kernel_rfl) (Nat.le_refl _) ((by exact trivial))
                  ⟨fun a w R => ld_P (R.slot 5 rfl) (R.keep ow5 trivial) rfl rfl, fun a w R => ld_P (R.slot 6 rfl) (R.keep ow6 trivial) rfl rfl, fun a w R => ld_P (R.slot 7 rfl) (R.keep ow7 trivial) rfl rfl, fun a w R => cl_ttt (enter_at Try.func99) (R.val 0) (R.val 1) (R.val 2) (On_is t29_.out _), fun a w R => asg (R.val 3), trivial⟩ (fun act_ W7 I => ?_)
                rw [I.act [(45, .agg #[.int .i64 b1, .int .i64 b2]), (46, .agg #[.int .i64 c1, .int .i64 c2]), (47, .agg #[.int .i64 d1, .int .i64 d2]), (48, .bool true), (40, .bool true)]
                  ⟨I.val 0, I.val 1, I.val 2, I.val 3, I.val 4, trivial⟩ rfl]
                have sW7 : W6.heap.size ≤ W7.heap.size := I.below.size
                replace ow4 := I.keep ow4 trivial
                replace ow5 := I.keep ow5 trivial
                replace ow6 := I.keep ow6 trivial
                replace ow7 := I.keep ow7 trivial
                replace ow14 := I.keep ow14 trivial
                have hW7 : Bel w.heap.size w W7 := thenB hW6 I.below hW6.size
                clear I
                simp only [List.foldl_cons, List.foldl_nil, List.setIfInBounds_toArray, List.set_cons_zero, List.set_cons_succ]
                go_upto_region 12 with fail
                refine region_memo_f (B := W7.heap.size) (L := .val (.bool true) :: []) (by kernel_rfl) (Nat.le_refl _) ((by exact trivial))
                  ⟨fun a w R => asc, trivial⟩ (fun act_ W8 I => ?_)
                rw [I.act [(8, .bool true)]
                  ⟨I.val 0, trivial⟩ rfl]
                have sW8 : W7.heap.size ≤ W8.heap.size := I.below.size
                replace ow4 := I.keep ow4 trivial
                replace ow5 := I.keep ow5 trivial
                replace ow6 := I.keep ow6 trivial
                replace ow7 := I.keep ow7 trivial
                replace ow14 := I.keep ow14 trivial
                have hW8 : Bel w.heap.size w W8 := thenB hW7 I.below hW7.size
                clear I
                simp only [List.foldl_cons, List.foldl_nil, List.setIfInBounds_toArray, List.set_cons_zero, List.set_cons_succ]
                clear ow4 ow5 ow6 ow7 ow14
                go_wp2
                try simp only [setCell_drawn]
                refine bodyPost_ret (by first | (simp [results, Try.results101, go_sem]; done) | (simp [results, Try.results101, go_sem]; rfl)) rfl ⟨?_, hW8⟩
                refine retb_eq ?_; simp only [mtB, t1_.out, t2_.out, t3_.out, t4_.out, t20_.out, t28_.out, t29_.out]; rfl
              · have t29_ := Lib.hid t29
                clear t29
                go_upto_region 9 with fail
                refine region_memo_f (B := W6.heap.size) (L := .val (.agg #[.int .i64 b1, .int .i64 b2]) :: .val (.agg #[.int .i64 c1, .int .i64 c2]) :: .val (.agg #[.int .i64 d1, .int .i64 d2]) :: .val (.bool false) :: .val (.bool false) :: []) (by kernel_rfl) (Nat.le_refl _) ((by exact trivial))
                  ⟨fun a w R => ld_P (R.slot 5 rfl) (R.keep ow5 trivial) rfl rfl, fun a w R => ld_P (R.slot 6 rfl) (R.keep ow6 trivial) rfl rfl, fun a w R => ld_P (R.slot 7 rfl) (R.keep ow7 trivial) rfl rfl, fun a w R => cl_ttt (enter_at Try.func99) (R.val 0) (R.val 1) (R.val 2) (On_is t29_.out _), fun a w R => asg (R.val 3), trivial⟩ (fun act_ W7 I => ?_)
                rw [I.act [(45, .agg #[.int .i64 b1, .int .i64 b2]), (46, .agg #[.int .i64 c1, .int .i64 c2]), (47, .agg #[.int .i64 d1, .int .i64 d2]), (48, .bool false), (40, .bool false)]
                  ⟨I.val 0, I.val 1, I.val 2, I.val 3, I.val 4, trivial⟩ rfl]
                have sW7 : W6.heap.size ≤ W7.heap.size := I.below.size
                replace ow4 := I.keep ow4 trivial
                replace ow5 := I.keep ow5 trivial
                replace ow6 := I.keep ow6 trivial
                replace ow7 := I.keep ow7 trivial
                replace ow14 := I.keep ow14 trivial
                have hW7 : Bel w.heap.size w W7 := thenB hW6 I.below hW6.size
                clear I
                simp only [List.foldl_cons, List.foldl_nil, List.setIfInBounds_toArray, List.set_cons_zero, List.set_cons_succ]
                rcases Bool.eq_false_or_eq_true (onB c1 c2 a1 a2 b1 b2) with t30 | t30
                · have t30_ := Lib.hid t30
                  clear t30
                  go_upto_region 10 with fail
                  refine region_memo_f (B := W7.heap.size) (L := .val (.agg #[.int .i64 c1, .int .i64 c2]) :: .val (.agg #[.int .i64 a1, .int .i64 a2]) :: .val (.agg #[.int .i64 b1, .int .i64 b2]) :: .val (.bool true) :: .val (.bool true) :: []) (by kernel_rfl) (Nat.le_refl _) ((by exact trivial))
                    ⟨fun a w R => ld_P (R.slot 6 rfl) (R.keep ow6 trivial) rfl rfl, fun a w R => ld_P (R.slot 4 rfl) (R.keep ow4 trivial) rfl rfl, fun a w R => ld_P (R.slot 5 rfl) (R.keep ow5 trivial) rfl rfl, fun a w R => cl_ttt (enter_at Try.func99) (R.val 0) (R.val 1) (R.val 2) (On_is t30_.out _), fun a w R => asg (R.val 3), trivial⟩ (fun act_ W8 I => ?_)
                  rw [I.act [(49, .agg #[.int .i64 c1, .int .i64 c2]), (50, .agg #[.int .i64 a1, .int .i64 a2]), (51, .agg #[.int .i64 b1, .int .i64 b2]), (52, .bool true), (40, .bool true)]
                    ⟨I.val 0, I.val 1, I.val 2, I.val 3, I.val 4, trivial⟩ rfl]
                  have sW8 : W7.heap.size ≤ W8.heap.size := I.below.size
                  replace ow4 := I.keep ow4 trivial
                  replace ow5 := I.keep ow5 trivial
                  replace ow6 := I.keep ow6 trivial
                  replace ow7 := I.keep ow7 trivial
                  replace ow14 := I.keep ow14 trivial
                  have hW8 : Bel w.heap.size w W8 := thenB hW7 I.below hW7.size
                  clear I
                  simp only [List.foldl_cons, List.foldl_nil, List.setIfInBounds_toArray, List.set_cons_zero, List.set_cons_succ]
                  go_upto_region 12 with fail
                  refine region_memo_f (B := W8.heap.size) (L := .val (.bool true) :: []) (by kernel_rfl) (Nat.le_refl _) ((by exact trivial))
                    ⟨fun a w R => asc, trivial⟩ (fun act_ W9 I => ?_)
                  rw [I.act [(8, .bool true)]
                    ⟨I.val 0, trivial⟩ rfl]
                  have sW9 : W8.heap.size ≤ W9.heap.size := I.below.size
                  replace ow4 := I.keep ow4 trivial
                  replace ow5 := I.keep ow5 trivial
                  replace ow6 := I.keep ow6 trivial
                  replace ow7 := I.keep ow7 trivial
                  replace ow14 := I.keep ow14 trivial
                  have hW9 : Bel w.heap.size w W9 := thenB hW8 I.below hW8.size
                  clear I
                  simp only [List.foldl_cons, List.foldl_nil, List.setIfInBounds_toArray, List.set_cons_zero, List.set_cons_succ]
                  clear ow4 ow5 ow6 ow7 ow14
                  go_wp2
                  try simp only [setCell_drawn]
                  refine bodyPost_ret (by first | (simp [results, Try.results101, go_sem]; done) | (simp [results, Try.results101, go_sem]; rfl)) rfl ⟨?_, hW9⟩
                  refine retb_eq ?_; simp only [mtB, t1_.out, t2_.out, t3_.out, t4_.out, t20_.out, t28_.out, t29_.out, t30_.out]; rfl
                · have t30_ := Lib.hid t30
                  clear t30
                  go_upto_region 10 with fail
                  refine region_memo_f (B := W7.heap.size) (L := .val (.agg #[.int .i64 c1, .int .i64 c2]) :: .val (.agg #[.int .i64 a1, .int .i64 a2]) :: .val (.agg #[.int .i64 b1, .int .i64 b2]) :: .val (.bool false) :: .val (.bool false) :: []) (by kernel_rfl) (Nat.le_refl _) ((by exact trivial))
                    ⟨fun a w R => ld_P (R.slot 6 rfl) (R.keep ow6 trivial) rfl rfl, fun a w R => ld_P (R.slot 4 rfl) (R.keep ow4 trivial) rfl rfl, fun a w R => ld_P (R.slot 5 rfl) (R.keep ow5 trivial) rfl rfl, fun a w R => cl_ttt (enter_at Try.func99) (R.val 0) (R.val 1) (R.val 2) (On_is t30_.out _), fun a w R => asg (R.val 3), trivial⟩ (fun act_ W8 I => ?_)
                  rw [I.act [(49, .agg #[.int .i64 c1, .int .i64 c2]), (50, .agg #[.int .i64 a1, .int .i64 a2]), (51, .agg #[.int .i64 b1, .int .i64 b2]), (52, .bool false), (40, .bool false)]
                    ⟨I.val 0, I.val 1, I.val 2, I.val 3, I.val 4, trivial⟩ rfl]
                  have sW8 : W7.heap.size ≤ W8.heap.size := I.below.size
                  replace ow4 := I.keep ow4 trivial
                  replace ow5 := I.keep ow5 trivial
                  replace ow6 := I.keep ow6 trivial
                  replace ow7 := I.keep ow7 trivial
                  replace ow14 := I.keep ow14 trivial
                  have hW8 : Bel w.heap.size w W8 := thenB hW7 I.below hW7.size
                  clear I
                  simp only [List.foldl_cons, List.foldl_nil, List.setIfInBounds_toArray, List.set_cons_zero, List.set_cons_succ]
                  rcases Bool.eq_false_or_eq_true (onB d1 d2 a1 a2 b1 b2) with t31 | t31
                  · have t31_ := Lib.hid t31
                    clear t31
                    go_upto_region 11 with fail
                    refine region_memo_f (B := W8.heap.size) (L := .val (.agg #[.int .i64 d1, .int .i64 d2]) :: .val (.agg #[.int .i64 a1, .int .i64 a2]) :: .val (.agg #[.int .i64 b1, .int .i64 b2]) :: .val (.bool true) :: .val (.bool true) :: []) (by kernel_rfl) (Nat.le_refl _) ((by exact trivial))
                      ⟨fun a w R => ld_P (R.slot 7 rfl) (R.keep ow7 trivial) rfl rfl, fun a w R => ld_P (R.slot 4 rfl) (R.keep ow4 trivial) rfl rfl, fun a w R => ld_P (R.slot 5 rfl) (R.keep ow5 trivial) rfl rfl, fun a w R => cl_ttt (enter_at Try.func99) (R.val 0) (R.val 1) (R.val 2) (On_is t31_.out _), fun a w R => asg (R.val 3), trivial⟩ (fun act_ W9 I => ?_)
                    rw [I.act [(53, .agg #[.int .i64 d1, .int .i64 d2]), (54, .agg #[.int .i64 a1, .int .i64 a2]), (55, .agg #[.int .i64 b1, .int .i64 b2]), (56, .bool true), (40, .bool true)]
                      ⟨I.val 0, I.val 1, I.val 2, I.val 3, I.val 4, trivial⟩ rfl]
                    have sW9 : W8.heap.size ≤ W9.heap.size := I.below.size
                    replace ow4 := I.keep ow4 trivial
                    replace ow5 := I.keep ow5 trivial
                    replace ow6 := I.keep ow6 trivial
                    replace ow7 := I.keep ow7 trivial
                    replace ow14 := I.keep ow14 trivial
                    have hW9 : Bel w.heap.size w W9 := thenB hW8 I.below hW8.size
                    clear I
                    simp only [List.foldl_cons, List.foldl_nil, List.setIfInBounds_toArray, List.set_cons_zero, List.set_cons_succ]
                    go_upto_region 12 with fail
                    refine region_memo_f (B := W9.heap.size) (L := .val (.bool true) :: []) (by kernel_rfl) (Nat.le_refl _) ((by exact trivial))
                      ⟨fun a w R => asc, trivial⟩ (fun act_ W10 I => ?_)
                    rw [I.act [(8, .bool true)]
                      ⟨I.val 0, trivial⟩ rfl]
                    have sW10 : W9.heap.size ≤ W10.heap.size := I.below.size
                    replace ow4 := I.keep ow4 trivial
                    replace ow5 := I.keep ow5 trivial
                    replace ow6 := I.keep ow6 trivial
                    replace ow7 := I.keep ow7 trivial
                    replace ow14 := I.keep ow14 trivial
                    have hW10 : Bel w.heap.size w W10 := thenB hW9 I.below hW9.size
                    clear I
                    simp only [List.foldl_cons, List.foldl_nil, List.setIfInBounds_toArray, List.set_cons_zero, List.set_cons_succ]
                    clear ow4 ow5 ow6 ow7 ow14
                    go_wp2
                    try simp only [setCell_drawn]
                    refine bodyPost_ret (by first | (simp [results, Try.results101, go_sem]; done) | (simp [results, Try.results101, go_sem]; rfl)) rfl ⟨?_, hW10⟩
                    refine retb_eq ?_; simp only [mtB, t1_.out, t2_.out, t3_.out, t4_.out, t20_.out, t28_.out, t29_.out, t30_.out, t31_.out]; rfl
                  · have t31_ := Lib.hid t31
                    clear t31
                    go_upto_region 11 with fail
                    refine region_memo_f (B := W8.heap.size) (L := .val (.agg #[.int .i64 d1, .int .i64 d2]) :: .val (.agg #[.int .i64 a1, .int .i64 a2]) :: .val (.agg #[.int .i64 b1, .int .i64 b2]) :: .val (.bool false) :: .val (.bool false) :: []) (by kernel_rfl) (Nat.le_refl _) ((by exact trivial))
                      ⟨fun a w R => ld_P (R.slot 7 rfl) (R.keep ow7 trivial) rfl rfl, fun a w R => ld_P (R.slot 4 rfl) (R.keep ow4 trivial) rfl rfl, fun a w R => ld_P (R.slot 5 rfl) (R.keep ow5 trivial) rfl rfl, fun a w R => cl_ttt (enter_at Try.func99) (R.val 0) (R.val 1) (R.val 2) (On_is t31_.out _), fun a w R => asg (R.val 3), trivial⟩ (fun act_ W9 I => ?_)
                    rw [I.act [(53, .agg #[.int .i64 d1, .int .i64 d2]), (54, .agg #[.int .i64 a1, .int .i64 a2]), (55, .agg #[.int .i64 b1, .int .i64 b2]), (56, .bool false), (40, .bool false)]
                      ⟨I.val 0, I.val 1, I.val 2, I.val 3, I.val 4, trivial⟩ rfl]
                    have sW9 : W8.heap.size ≤ W9.heap.size := I.below.size
                    replace ow4 := I.keep ow4 trivial
                    replace ow5 := I.keep ow5 trivial
                    replace ow6 := I.keep ow6 trivial
                    replace ow7 := I.keep ow7 trivial
                    replace ow14 := I.keep ow14 trivial
                    have hW9 : Bel w.heap.size w W9 := thenB hW8 I.below hW8.size
                    clear I
                    simp only [List.foldl_cons, List.foldl_nil, List.setIfInBounds_toArray, List.set_cons_zero, List.set_cons_succ]
                    rcases Bool.eq_false_or_eq_true (ptB a1 a2 b1 b2 c1 c2 d1 d2) with t32 | t32
                    · have t32_ := Lib.hid t32
                      clear t32
                      rcases Bool.eq_false_or_eq_true (ptB c1 c2 d1 d2 a1 a2 b1 b2) with t33 | t33
                      · have t33_ := Lib.hid t33
                        clear t33
                        go_upto_region 13 with fail
                        refine region_memo_f (B := W9.heap.size) (L := .val (.agg #[.int .i64 a1, .int .i64 a2]) :: .val (.agg #[.int .i64 b1, .int .i64 b2]) :: .val (.agg #[.int .i64 c1, .int .i64 c2]) :: .val (.agg #[.int .i64 d1, .int .i64 d2]) :: .val (.bool true) :: .val (.bool true) :: .val (.agg #[.int .i64 c1, .int .i64 c2]) :: .val (.agg #[.int .i64 d1, .int .i64 d2]) :: .val (.agg #[.int .i64 a1, .int .i64 a2]) :: .val (.agg #[.int .i64 b1, .int .i64 b2]) :: .val (.bool true) :: .val (.bool true) :: .val (.bool true) :: []) (by kernel_rfl) (Nat.le_refl _) ((by exact trivial))
                          ⟨fun a w R => ld_P (R.slot 4 rfl) (R.keep ow4 trivial) rfl rfl, fun a w R => ld_P (R.slot 5 rfl) (R.keep ow5 trivial) rfl rfl, fun a w R => ld_P (R.slot 6 rfl) (R.keep ow6 trivial) rfl rfl, fun a w R => ld_P (R.slot 7 rfl) (R.keep ow7 trivial) rfl rfl, fun a w R => cl_tttt (enter_at Try.func115) (R.val 0) (R.val 1) (R.val 2) (R.val 3) (parts_is t32_.out (in4_iff.2 ⟨(in4_iff.1 t1_.out).1, (in4_iff.1 t1_.out).2.1, (in4_iff.1 t1_.out).2.2.1, (in4_iff.1 t1_.out).2.2.2⟩) _), fun a w R => mv (R.val 4), fun a w R => ld_P (R.slot 6 rfl) (R.keep ow6 trivial) rfl rfl, fun a w R => ld_P (R.slot 7 rfl) (R.keep ow7 trivial) rfl rfl, fun a w R => ld_P (R.slot 4 rfl) (R.keep ow4 trivial) rfl rfl, fun a w R => ld_P (R.slot 5 rfl) (R.keep ow5 trivial) rfl rfl, fun a w R => cl_tttt (enter_at Try.func115) (R.val 6) (R.val 7) (R.val 8) (R.val 9) (parts_is t33_.out (in4_iff.2 ⟨(in4_iff.1 t1_.out).2.2.1, (in4_iff.1 t1_.out).2.2.2, (in4_iff.1 t1_.out).1, (in4_iff.1 t1_.out).2.1⟩) _), fun a w R => pickt (R.val 5) (R.val 10), fun a w R => asg (R.val 11), trivial⟩ (fun act_ W10 I => ?_)
                        rw [I.act [(57, .agg #[.int .i64 a1, .int .i64 a2]), (58, .agg #[.int .i64 b1, .int .i64 b2]), (59, .agg #[.int .i64 c1, .int .i64 c2]), (60, .agg #[.int .i64 d1, .int .i64 d2]), (61, .bool true), (62, .bool true), (63, .agg #[.int .i64 c1, .int .i64 c2]), (64, .agg #[.int .i64 d1, .int .i64 d2]), (65, .agg #[.int .i64 a1, .int .i64 a2]), (66, .agg #[.int .i64 b1, .int .i64 b2]), (67, .bool true), (68, .bool true), (8, .bool true)]
                          ⟨I.val 0, I.val 1, I.val 2, I.val 3, I.val 4, I.val 5, I.val 6, I.val 7, I.val 8, I.val 9, I.val 10, I.val 11, I.val 12, trivial⟩ rfl]
                        have sW10 : W9.heap.size ≤ W10.heap.size := I.below.size
                        replace ow4 := I.keep ow4 trivial
                        replace ow5 := I.keep ow5 trivial
                        replace ow6 := I.keep ow6 trivial
                        replace ow7 := I.keep ow7 trivial
                        replace ow14 := I.keep ow14 trivial
                        have hW10 : Bel w.heap.size w W10 := thenB hW9 I.below hW9.size
                        clear I
                        simp only [List.foldl_cons, List.foldl_nil, List.setIfInBounds_toArray, List.set_cons_zero, List.set_cons_succ]
                        clear ow4 ow5 ow6 ow7 ow14
                        go_wp2
                        try simp only [setCell_drawn]
                        refine bodyPost_ret (by first | (simp [results, Try.results101, go_sem]; done) | (simp [results, Try.results101, go_sem]; rfl)) rfl ⟨?_, hW10⟩
                        refine retb_eq ?_; simp only [mtB, t1_.out, t2_.out, t3_.out, t4_.out, t20_.out, t28_.out, t29_.out, t30_.out, t31_.out, t32_.out, t33_.out]; rfl
                      · have t33_ := Lib.hid t33
                        clear t33
                        go_upto_region 13 with fail
                        refine region_memo_f (B := W9.heap.size) (L := .val (.agg #[.int .i64 a1, .int .i64 a2]) :: .val (.agg #[.int .i64 b1, .int .i64 b2]) :: .val (.agg #[.int .i64 c1, .int .i64 c2]) :: .val (.agg #[.int .i64 d1, .int .i64 d2]) :: .val (.bool true) :: .val (.bool true) :: .val (.agg #[.int .i64 c1, .int .i64 c2]) :: .val (.agg #[.int .i64 d1, .int .i64 d2]) :: .val (.agg #[.int .i64 a1, .int .i64 a2]) :: .val (.agg #[.int .i64 b1, .int .i64 b2]) :: .val (.bool false) :: .val (.bool false) :: .val (.bool false) :: []) (by kernel_rfl) (Nat.le_refl _) ((by exact trivial))
                          ⟨fun a w R => ld_P (R.slot 4 rfl) (R.keep ow4 trivial) rfl rfl, fun a w R => ld_P (R.slot 5 rfl) (R.keep ow5 trivial) rfl rfl, fun a w R => ld_P (R.slot 6 rfl) (R.keep ow6 trivial) rfl rfl, fun a w R => ld_P (R.slot 7 rfl) (R.keep ow7 trivial) rfl rfl, fun a w R => cl_tttt (enter_at Try.func115) (R.val 0) (R.val 1) (R.val 2) (R.val 3) (parts_is t32_.out (in4_iff.2 ⟨(in4_iff.1 t1_.out).1, (in4_iff.1 t1_.out).2.1, (in4_iff.1 t1_.out).2.2.1, (in4_iff.1 t1_.out).2.2.2⟩) _), fun a w R => mv (R.val 4), fun a w R => ld_P (R.slot 6 rfl) (R.keep ow6 trivial) rfl rfl, fun a w R => ld_P (R.slot 7 rfl) (R.keep ow7 trivial) rfl rfl, fun a w R => ld_P (R.slot 4 rfl) (R.keep ow4 trivial) rfl rfl, fun a w R => ld_P (R.slot 5 rfl) (R.keep ow5 trivial) rfl rfl, fun a w R => cl_tttt (enter_at Try.func115) (R.val 6) (R.val 7) (R.val 8) (R.val 9) (parts_is t33_.out (in4_iff.2 ⟨(in4_iff.1 t1_.out).2.2.1, (in4_iff.1 t1_.out).2.2.2, (in4_iff.1 t1_.out).1, (in4_iff.1 t1_.out).2.1⟩) _), fun a w R => pickt (R.val 5) (R.val 10), fun a w R => asg (R.val 11), trivial⟩ (fun act_ W10 I => ?_)
                        rw [I.act [(57, .agg #[.int .i64 a1, .int .i64 a2]), (58, .agg #[.int .i64 b1, .int .i64 b2]), (59, .agg #[.int .i64 c1, .int .i64 c2]), (60, .agg #[.int .i64 d1, .int .i64 d2]), (61, .bool true), (62, .bool true), (63, .agg #[.int .i64 c1, .int .i64 c2]), (64, .agg #[.int .i64 d1, .int .i64 d2]), (65, .agg #[.int .i64 a1, .int .i64 a2]), (66, .agg #[.int .i64 b1, .int .i64 b2]), (67, .bool false), (68, .bool false), (8, .bool false)]
                          ⟨I.val 0, I.val 1, I.val 2, I.val 3, I.val 4, I.val 5, I.val 6, I.val 7, I.val 8, I.val 9, I.val 10, I.val 11, I.val 12, trivial⟩ rfl]
                        have sW10 : W9.heap.size ≤ W10.heap.size := I.below.size
                        replace ow4 := I.keep ow4 trivial
                        replace ow5 := I.keep ow5 trivial
                        replace ow6 := I.keep ow6 trivial
                        replace ow7 := I.keep ow7 trivial
                        replace ow14 := I.keep ow14 trivial
                        have hW10 : Bel w.heap.size w W10 := thenB hW9 I.below hW9.size
                        clear I
                        simp only [List.foldl_cons, List.foldl_nil, List.setIfInBounds_toArray, List.set_cons_zero, List.set_cons_succ]
                        clear ow4 ow5 ow6 ow7 ow14
                        go_wp2
                        try simp only [setCell_drawn]
                        refine bodyPost_ret (by first | (simp [results, Try.results101, go_sem]; done) | (simp [results, Try.results101, go_sem]; rfl)) rfl ⟨?_, hW10⟩
                        refine retb_eq ?_; simp only [mtB, t1_.out, t2_.out, t3_.out, t4_.out, t20_.out, t28_.out, t29_.out, t30_.out, t31_.out, t32_.out, t33_.out]; rfl
                    · have t32_ := Lib.hid t32
                      clear t32
                      go_upto_region 13 with fail
                      refine region_memo_f (B := W9.heap.size) (L := .val (.agg #[.int .i64 a1, .int .i64 a2]) :: .val (.agg #[.int .i64 b1, .int .i64 b2]) :: .val (.agg #[.int .i64 c1, .int .i64 c2]) :: .val (.agg #[.int .i64 d1, .int .i64 d2]) :: .val (.bool false) :: .val (.bool false) :: .skip :: .skip :: .skip :: .skip :: .skip :: .val (.bool false) :: .val (.bool false) :: []) (by kernel_rfl) (Nat.le_refl _) ((by exact trivial))
                        ⟨fun a w R => ld_P (R.slot 4 rfl) (R.keep ow4 trivial) rfl rfl, fun a w R => ld_P (R.slot 5 rfl) (R.keep ow5 trivial) rfl rfl, fun a w R => ld_P (R.slot 6 rfl) (R.keep ow6 trivial) rfl rfl, fun a w R => ld_P (R.slot 7 rfl) (R.keep ow7 trivial) rfl rfl, fun a w R => cl_tttt (enter_at Try.func115) (R.val 0) (R.val 1) (R.val 2) (R.val 3) (parts_is t32_.out (in4_iff.2 ⟨(in4_iff.1 t1_.out).1, (in4_iff.1 t1_.out).2.1, (in4_iff.1 t1_.out).2.2.1, (in4_iff.1 t1_.out).2.2.2⟩) _), fun a w R => mv (R.val 4), fun a w R => True.intro, fun a w R => True.intro, fun a w R => True.intro, fun a w R => True.intro, fun a w R => True.intro, fun a w R => pickf (R.val 5) (R.goneS 10), fun a w R => asg (R.val 11), trivial⟩ (fun act_ W10 I => ?_)
                      rw [I.act [(57, .agg #[.int .i64 a1, .int .i64 a2]), (58, .agg #[.int .i64 b1, .int .i64 b2]), (59, .agg #[.int .i64 c1, .int .i64 c2]), (60, .agg #[.int .i64 d1, .int .i64 d2]), (61, .bool false), (62, .bool false), (63, undef), (64, undef), (65, undef), (66, undef), (67, undef), (68, .bool false), (8, .bool false)]
                        ⟨I.val 0, I.val 1, I.val 2, I.val 3, I.val 4, I.val 5, I.gone 6, I.gone 7, I.gone 8, I.gone 9, I.gone 10, I.val 11, I.val 12, trivial⟩ rfl]
                      have sW10 : W9.heap.size ≤ W10.heap.size := I.below.size
                      replace ow4 := I.keep ow4 trivial
                      replace ow5 := I.keep ow5 trivial
                      replace ow6 := I.keep ow6 trivial
                      replace ow7 := I.keep ow7 trivial
                      replace ow14 := I.keep ow14 trivial
                      have hW10 : Bel w.heap.size w W10 := thenB hW9 I.below hW9.size
                      clear I
                      simp only [List.foldl_cons, List.foldl_nil, List.setIfInBounds_toArray, List.set_cons_zero, List.set_cons_succ]
                      clear ow4 ow5 ow6 ow7 ow14
                      go_wp2
                      try simp only [setCell_drawn]
                      refine bodyPost_ret (by first | (simp [results, Try.results101, go_sem]; done) | (simp [results, Try.results101, go_sem]; rfl)) rfl ⟨?_, hW10⟩
                      refine retb_eq ?_; simp only [mtB, t1_.out, t2_.out, t3_.out, t4_.out, t20_.out, t28_.out, t29_.out, t30_.out, t31_.out, t32_.out]; rfl
  · have t1_ := Lib.hid t1
    clear t1
    go_upto_region 1 with fail
    refine region_memo_f (B := W0.heap.size) (L := .val (.agg #[.int .i64 a1, .int .i64 a2]) :: .val (.agg #[.int .i64 b1, .int .i64 b2]) :: .val (.agg #[.int .i64 c1, .int .i64 c2]) :: .val (.agg #[.int .i64 d1, .int .i64 d2]) :: .new 37 #[.int .i64 a1, .int .i64 a2, .int .i64 b1, .int .i64 b2, .int .i64 c1, .int .i64 c2, .int .i64 d1, .int .i64 d2] (some (4, 4)) :: .val (.bool false) :: .val (.bool true) :: .val (.bool true) :: []) (by kernel_rfl) (Nat.le_refl _) ((by exact trivial))
      ⟨fun a w R => ld_P (R.slot 4 rfl) (R.keep ow4 trivial) rfl rfl, fun a w R => ld_P (R.slot 5 rfl) (R.keep ow5 trivial) rfl rfl, fun a w R => ld_P (R.slot 6 rfl) (R.keep ow6 trivial) rfl rfl, fun a w R => ld_P (R.slot 7 rfl) (R.keep ow7 trivial) rfl rfl, fun a w R => bsP_4 (R.val 0) (R.val 1) (R.val 2) (R.val 3), fun a w R => cl_n (enter_at Try.func95) (R.dep 4) (fun g hg => allIn4 t1_.out hg), fun a w R => notb (R.val 5), fun a w R => asg (R.val 6), trivial⟩ (fun act_ W1 I => ?_)
    obtain ⟨gb14, ew14, lw14, ow14⟩ := I.new 4 rfl rfl rfl
    rw [I.act [(10, .agg #[.int .i64 a1, .int .i64 a2]), (11, .agg #[.int .i64 b1, .int .i64 b2]), (12, .agg #[.int .i64 c1, .int .i64 c2]), (13, .agg #[.int .i64 d1, .int .i64 d2]), (14, .slice (some ⟨gb14, 0, none⟩) 4 4), (15, .bool false), (16, .bool true), (9, .bool true)]
      ⟨I.val 0, I.val 1, I.val 2, I.val 3, ew14, I.val 5, I.val 6, I.val 7, trivial⟩ rfl]
    change W0.heap.size ≤ gb14 at lw14
    have sW1 : W0.heap.size ≤ W1.heap.size := I.below.size
    replace ow4 := I.keep ow4 trivial
    replace ow5 := I.keep ow5 trivial
    replace ow6 := I.keep ow6 trivial
    replace ow7 := I.keep ow7 trivial
    have hW1 : Bel w.heap.size w W1 := thenB hW0 I.below hW0.size
    clear ew14
    clear I
    simp only [List.foldl_cons, List.foldl_nil, List.setIfInBounds_toArray, List.set_cons_zero, List.set_cons_succ]
    go_upto_region 4 with fail
    refine region_memo_f (B := W1.heap.size) (L := .val (.bool false) :: []) (by kernel_rfl) (Nat.le_refl _) ((by exact trivial))
      ⟨fun a w R => asc, trivial⟩ (fun act_ W2 I => ?_)
    rw [I.act [(8, .bool false)]
      ⟨I.val 0, trivial⟩ rfl]
    have sW2 : W1.heap.size ≤ W2.heap.size := I.below.size
    replace ow4 := I.keep ow4 trivial
    replace ow5 := I.keep ow5 trivial
    replace ow6 := I.keep ow6 trivial
    replace ow7 := I.keep ow7 trivial
    replace ow14 := I.keep ow14 trivial
    have hW2 : Bel w.heap.size w W2 := thenB hW1 I.below hW1.size
    clear I
    simp only [List.foldl_cons, List.foldl_nil, List.setIfInBounds_toArray, List.set_cons_zero, List.set_cons_succ]
    clear ow4 ow5 ow6 ow7 ow14
    go_wp2
    try simp only [setCell_drawn]
    refine bodyPost_ret (by first | (simp [results, Try.results101, go_sem]; done) | (simp [results, Try.results101, go_sem]; rfl)) rfl ⟨?_, hW2⟩
    refine retb_eq ?_; simp only [mtB, t1_.out]; rfl
end Go.Proofs.Ytibnackmddigaaa
