
/- The contract of parts of geom; written by auto_geom.py. Conditions: those that each theorem names. -/
import Derived.Test.YtibnackmddigaaaGeoC
namespace Go.Proofs.Ytibnackmddigaaa
open Go.ChangeShapes Go.WideShapes Go.ChangeAt Go.RowKit
set_option linter.unusedVariables false
set_option linter.unusedSimpArgs false

def ptB (a1 a2 b1 b2 c1 c2 d1 d2 : Int) : Bool := decide (tn a1 a2 b1 b2 c1 c2 * tn a1 a2 b1 b2 d1 d2 < 0)
set_option maxHeartbeats 16000000 in
set_option maxRecDepth 20000 in
theorem parts_in {a1 a2 b1 b2 c1 c2 d1 d2 : Int} (hin : in4 a1 a2 b1 b2 c1 c2 d1 d2 = true) (w : World) : Calls Try.prog 115 #[.agg #[.int .i64 a1, .int .i64 a2], .agg #[.int .i64 b1, .int .i64 b2], .agg #[.int .i64 c1, .int .i64 c2], .agg #[.int .i64 d1, .int .i64 d2]] w fun e w' => e = .returned (.bool (ptB a1 a2 b1 b2 c1 c2 d1 d2)) ∧ Bel w.heap.size w w' := by
  have hin_ := Lib.hid hin
  clear hin
  go_enter Try.func115, Try.ntmps115
  go_upto_region 1 with fail
  go_name_world W0 hW0e
  have ow4 : Own W0 w.heap.size 37 #[.int .i64 a1, .int .i64 a2] := hW0e ▸ (by repeat' (first | (with_reducible assumption) | (with_reducible refine Own.drawnN ?_ _) | (with_reducible refine Own.drawn ?_) | (with_reducible refine Own.made_at ?_; first | rfl | (simp; done) | omega | (simp; omega)) | (with_reducible refine Own.more ?_ _) | (with_reducible refine Own.apart ?_ ?_ _ _; rotate_left; first | omega | (simp; done) | (simp; omega)) | (refine Own.put ?_ _ _)))
  have ow5 : Own W0 (w.heap.size + 1) 37 #[.int .i64 b1, .int .i64 b2] := hW0e ▸ (by repeat' (first | (with_reducible assumption) | (with_reducible refine Own.drawnN ?_ _) | (with_reducible refine Own.drawn ?_) | (with_reducible refine Own.made_at ?_; first | rfl | (simp; done) | omega | (simp; omega)) | (with_reducible refine Own.more ?_ _) | (with_reducible refine Own.apart ?_ ?_ _ _; rotate_left; first | omega | (simp; done) | (simp; omega)) | (refine Own.put ?_ _ _)))
  have ow6 : Own W0 (w.heap.size + 1 + 1) 37 #[.int .i64 c1, .int .i64 c2] := hW0e ▸ (by repeat' (first | (with_reducible assumption) | (with_reducible refine Own.drawnN ?_ _) | (with_reducible refine Own.drawn ?_) | (with_reducible refine Own.made_at ?_; first | rfl | (simp; done) | omega | (simp; omega)) | (with_reducible refine Own.more ?_ _) | (with_reducible refine Own.apart ?_ ?_ _ _; rotate_left; first | omega | (simp; done) | (simp; omega)) | (refine Own.put ?_ _ _)))
  have ow7 : Own W0 (w.heap.size + 1 + 1 + 1) 37 #[.int .i64 d1, .int .i64 d2] := hW0e ▸ (by repeat' (first | (with_reducible assumption) | (with_reducible refine Own.drawnN ?_ _) | (with_reducible refine Own.drawn ?_) | (with_reducible refine Own.made_at ?_; first | rfl | (simp; done) | omega | (simp; omega)) | (with_reducible refine Own.more ?_ _) | (with_reducible refine Own.apart ?_ ?_ _ _; rotate_left; first | omega | (simp; done) | (simp; omega)) | (refine Own.put ?_ _ _)))
  have hW0 : Bel w.heap.size w W0 := hW0e ▸ (by repeat' (first | (with_reducible exact Bel.refl _ _) | (with_reducible assumption) | (with_reducible refine bel_drewN ?_ _) | (with_reducible refine Bel.drew ?_) | (with_reducible refine Bel.alloc ?_ ?_ _) | (with_reducible refine Bel.setCell ?_ ?_ _) | (with_reducible refine thenB ?_ (by with_reducible assumption) ?_) | (with_reducible exact Nat.le_refl _) | (with_reducible exact Nat.le_succ _) | (with_reducible exact Nat.le_succ_of_le (by with_reducible assumption)) | omega | (simp; done) | (simp; omega) | (exact Nat.le_succ _) | (exact Nat.le_succ_of_le (by with_reducible assumption))))
  clear hW0e
  have z0 := ow7.in_
  rcases Bool.eq_false_or_eq_true (decide (((tn a1 a2 b1 b2 c1 c2) * (tn a1 a2 b1 b2 d1 d2)) < 0)) with t1 | t1
  · have t1_ := Lib.hid t1
    clear t1
    go_upto_region 1 with fail
    refine region_memo (B := W0.heap.size) (L := .val (.agg #[.int .i64 a1, .int .i64 a2]) :: .val (.agg #[.int .i64 b1, .int .i64 b2]) :: .val (.agg #[.int .i64 c1, .int .i64 c2]) :: .val (.int .i64 (tn a1 a2 b1 b2 c1 c2)) :: .val (.agg #[.int .i64 a1, .int .i64 a2]) :: .val (.agg #[.int .i64 b1, .int .i64 b2]) :: .val (.agg #[.int .i64 d1, .int .i64 d2]) :: .val (.int .i64 (tn a1 a2 b1 b2 d1 d2)) :: .val (.int .i64 ((tn a1 a2 b1 b2 c1 c2) * (tn a1 a2 b1 b2 d1 d2))) :: .val (.bool true) :: .val (.bool true) :: []) (by kernel_rfl) (by kernel_rfl) (Nat.le_refl _) ((by exact trivial))
      ⟨fun a w R => ld_P (R.slot 4 rfl) (R.keep ow4.drawn trivial) rfl rfl, fun a w R => ld_P (R.slot 5 rfl) (R.keep ow5.drawn trivial) rfl rfl, fun a w R => ld_P (R.slot 6 rfl) (R.keep ow6.drawn trivial) rfl rfl, fun a w R => cl_ttt (enter_at Try.func96) (R.val 0) (R.val 1) (R.val 2) (Turn_in (in3_iff.2 ⟨(in4_iff.1 hin_.out).1, (in4_iff.1 hin_.out).2.1, (in4_iff.1 hin_.out).2.2.1⟩) _), fun a w R => ld_P (R.slot 4 rfl) (R.keep ow4.drawn trivial) rfl rfl, fun a w R => ld_P (R.slot 5 rfl) (R.keep ow5.drawn trivial) rfl rfl, fun a w R => ld_P (R.slot 7 rfl) (R.keep ow7.drawn trivial) rfl rfl, fun a w R => cl_ttt (enter_at Try.func96) (R.val 4) (R.val 5) (R.val 6) (Turn_in (in3_iff.2 ⟨(in4_iff.1 hin_.out).1, (in4_iff.1 hin_.out).2.1, (in4_iff.1 hin_.out).2.2.2⟩) _), fun a w R => n_mul_tt (R.val 3) (R.val 7) (by first | rfl | exact tn_wrap _ _ | exact tn_negw _ | (simp only [IntKind.wrap_i64]; omega)), fun a w R => c_lss_tk (R.val 8) (Try.underlying3) t1_.out, fun a w R => asg (R.val 9), trivial⟩ (fun act_ W1 I => ?_)
    rw [I.act [(9, .agg #[.int .i64 a1, .int .i64 a2]), (10, .agg #[.int .i64 b1, .int .i64 b2]), (11, .agg #[.int .i64 c1, .int .i64 c2]), (12, .int .i64 (tn a1 a2 b1 b2 c1 c2)), (13, .agg #[.int .i64 a1, .int .i64 a2]), (14, .agg #[.int .i64 b1, .int .i64 b2]), (15, .agg #[.int .i64 d1, .int .i64 d2]), (16, .int .i64 (tn a1 a2 b1 b2 d1 d2)), (17, .int .i64 ((tn a1 a2 b1 b2 c1 c2) * (tn a1 a2 b1 b2 d1 d2))), (18, .bool true), (8, .bool true)]
      ⟨I.val 0, I.val 1, I.val 2, I.val 3, I.val 4, I.val 5, I.val 6, I.val 7, I.val 8, I.val 9, I.val 10, trivial⟩ rfl]
    have sW1 : W0.heap.size ≤ W1.heap.size := I.below.size
    replace ow4 := I.keep ow4.drawn trivial
    replace ow5 := I.keep ow5.drawn trivial
    replace ow6 := I.keep ow6.drawn trivial
    replace ow7 := I.keep ow7.drawn trivial
    have hW1 : Bel w.heap.size w W1 := thenB hW0.drew I.below hW0.size
    clear I
    simp only [List.foldl_cons, List.foldl_nil, List.setIfInBounds_toArray, List.set_cons_zero, List.set_cons_succ]
    clear ow4 ow5 ow6 ow7
    go_wp2
    try simp only [setCell_drawn]
    refine bodyPost_ret (by first | (simp [results, Try.results115, go_sem]; done) | (simp [results, Try.results115, go_sem]; rfl)) rfl ⟨?_, hW1⟩
    refine retb_eq ?_; simp [ptB, t1_.out, hin_.out]
  · have t1_ := Lib.hid t1
    clear t1
    go_upto_region 1 with fail
    refine region_memo (B := W0.heap.size) (L := .val (.agg #[.int .i64 a1, .int .i64 a2]) :: .val (.agg #[.int .i64 b1, .int .i64 b2]) :: .val (.agg #[.int .i64 c1, .int .i64 c2]) :: .val (.int .i64 (tn a1 a2 b1 b2 c1 c2)) :: .val (.agg #[.int .i64 a1, .int .i64 a2]) :: .val (.agg #[.int .i64 b1, .int .i64 b2]) :: .val (.agg #[.int .i64 d1, .int .i64 d2]) :: .val (.int .i64 (tn a1 a2 b1 b2 d1 d2)) :: .val (.int .i64 ((tn a1 a2 b1 b2 c1 c2) * (tn a1 a2 b1 b2 d1 d2))) :: .val (.bool false) :: .val (.bool false) :: []) (by kernel_rfl) (by kernel_rfl) (Nat.le_refl _) ((by exact trivial))
      ⟨fun a w R => ld_P (R.slot 4 rfl) (R.keep ow4.drawn trivial) rfl rfl, fun a w R => ld_P (R.slot 5 rfl) (R.keep ow5.drawn trivial) rfl rfl, fun a w R => ld_P (R.slot 6 rfl) (R.keep ow6.drawn trivial) rfl rfl, fun a w R => cl_ttt (enter_at Try.func96) (R.val 0) (R.val 1) (R.val 2) (Turn_in (in3_iff.2 ⟨(in4_iff.1 hin_.out).1, (in4_iff.1 hin_.out).2.1, (in4_iff.1 hin_.out).2.2.1⟩) _), fun a w R => ld_P (R.slot 4 rfl) (R.keep ow4.drawn trivial) rfl rfl, fun a w R => ld_P (R.slot 5 rfl) (R.keep ow5.drawn trivial) rfl rfl, fun a w R => ld_P (R.slot 7 rfl) (R.keep ow7.drawn trivial) rfl rfl, fun a w R => cl_ttt (enter_at Try.func96) (R.val 4) (R.val 5) (R.val 6) (Turn_in (in3_iff.2 ⟨(in4_iff.1 hin_.out).1, (in4_iff.1 hin_.out).2.1, (in4_iff.1 hin_.out).2.2.2⟩) _), fun a w R => n_mul_tt (R.val 3) (R.val 7) (by first | rfl | exact tn_wrap _ _ | exact tn_negw _ | (simp only [IntKind.wrap_i64]; omega)), fun a w R => c_lss_tk (R.val 8) (Try.underlying3) t1_.out, fun a w R => asg (R.val 9), trivial⟩ (fun act_ W1 I => ?_)
    rw [I.act [(9, .agg #[.int .i64 a1, .int .i64 a2]), (10, .agg #[.int .i64 b1, .int .i64 b2]), (11, .agg #[.int .i64 c1, .int .i64 c2]), (12, .int .i64 (tn a1 a2 b1 b2 c1 c2)), (13, .agg #[.int .i64 a1, .int .i64 a2]), (14, .agg #[.int .i64 b1, .int .i64 b2]), (15, .agg #[.int .i64 d1, .int .i64 d2]), (16, .int .i64 (tn a1 a2 b1 b2 d1 d2)), (17, .int .i64 ((tn a1 a2 b1 b2 c1 c2) * (tn a1 a2 b1 b2 d1 d2))), (18, .bool false), (8, .bool false)]
      ⟨I.val 0, I.val 1, I.val 2, I.val 3, I.val 4, I.val 5, I.val 6, I.val 7, I.val 8, I.val 9, I.val 10, trivial⟩ rfl]
    have sW1 : W0.heap.size ≤ W1.heap.size := I.below.size
    replace ow4 := I.keep ow4.drawn trivial
    replace ow5 := I.keep ow5.drawn trivial
    replace ow6 := I.keep ow6.drawn trivial
    replace ow7 := I.keep ow7.drawn trivial
    have hW1 : Bel w.heap.size w W1 := thenB hW0.drew I.below hW0.size
    clear I
    simp only [List.foldl_cons, List.foldl_nil, List.setIfInBounds_toArray, List.set_cons_zero, List.set_cons_succ]
    clear ow4 ow5 ow6 ow7
    go_wp2
    try simp only [setCell_drawn]
    refine bodyPost_ret (by first | (simp [results, Try.results115, go_sem]; done) | (simp [results, Try.results115, go_sem]; rfl)) rfl ⟨?_, hW1⟩
    refine retb_eq ?_; simp [ptB, t1_.out, hin_.out]
theorem parts_is {a1 a2 b1 b2 c1 c2 d1 d2 : Int} {b : Bool} (h : ptB a1 a2 b1 b2 c1 c2 d1 d2 = b) (hin : in4 a1 a2 b1 b2 c1 c2 d1 d2 = true) (w : World) : Calls Try.prog 115 #[.agg #[.int .i64 a1, .int .i64 a2], .agg #[.int .i64 b1, .int .i64 b2], .agg #[.int .i64 c1, .int .i64 c2], .agg #[.int .i64 d1, .int .i64 d2]] w fun e w' => e = .returned (.bool b) ∧ Bel w.heap.size w w' := h ▸ parts_in hin w
end Go.Proofs.Ytibnackmddigaaa
