
/- The document's Area, Turn, On, Meet, Around (croftref05), and flip, move of the laws; written by auto_geom4.py. Conditions: points in range. -/
import Derived.Test.YthakafnecddliaaGeoW
namespace Go.Proofs.Ythakafnecddliaa
open Go.ChangeShapes Go.WideShapes Go.ChangeAt Go.RowKit
set_option linter.unusedVariables false
set_option linter.unusedSimpArgs false

set_option maxHeartbeats 16000000 in
set_option maxRecDepth 20000 in
theorem Area_in {a1 a2 b1 b2 c1 c2 : Int} (ra : Rng a1 a2) (rb : Rng b1 b2) (rc : Rng c1 c2) (w : World) : Calls Try.prog 73 #[.agg #[.int .i64 a1, .int .i64 a2], .agg #[.int .i64 b1, .int .i64 b2], .agg #[.int .i64 c1, .int .i64 c2]] w fun e w' => e = .returned (.int .i64 (ar a1 a2 b1 b2 c1 c2)) ∧ Bel w.heap.size w w' := by
  obtain ⟨u1, u2, u3, u4⟩ := ra
  obtain ⟨u5, u6, u7, u8⟩ := rb
  obtain ⟨u9, u10, u11, u12⟩ := rc
  have m0 := mulb (x := a1) (y := b2) ⟨by omega, by omega⟩ ⟨by omega, by omega⟩
  have m1 := mulb (x := a2) (y := b1) ⟨by omega, by omega⟩ ⟨by omega, by omega⟩
  have m2 := mulb (x := b1) (y := c2) ⟨by omega, by omega⟩ ⟨by omega, by omega⟩
  have m3 := mulb (x := b2) (y := c1) ⟨by omega, by omega⟩ ⟨by omega, by omega⟩
  have m4 := mulb (x := c1) (y := a2) ⟨by omega, by omega⟩ ⟨by omega, by omega⟩
  have m5 := mulb (x := c2) (y := a1) ⟨by omega, by omega⟩ ⟨by omega, by omega⟩
  go_enter Try.func73, Try.ntmps73
  go_upto_region 1 with fail
  go_name_world W0 hW0e
  have ow3 : Own W0 w.heap.size 37 #[.int .i64 a1, .int .i64 a2] := hW0e ▸ (by repeat' (first | (with_reducible assumption) | (with_reducible refine Own.drawnN ?_ _) | (with_reducible refine Own.drawn ?_) | (with_reducible refine Own.made_at ?_; first | rfl | (simp; done) | omega | (simp; omega)) | (with_reducible refine Own.more ?_ _) | (with_reducible refine Own.apart ?_ ?_ _ _; rotate_left; first | omega | (simp; done) | (simp; omega)) | (refine Own.put ?_ _ _)))
  have ow4 : Own W0 (w.heap.size + 1) 37 #[.int .i64 b1, .int .i64 b2] := hW0e ▸ (by repeat' (first | (with_reducible assumption) | (with_reducible refine Own.drawnN ?_ _) | (with_reducible refine Own.drawn ?_) | (with_reducible refine Own.made_at ?_; first | rfl | (simp; done) | omega | (simp; omega)) | (with_reducible refine Own.more ?_ _) | (with_reducible refine Own.apart ?_ ?_ _ _; rotate_left; first | omega | (simp; done) | (simp; omega)) | (refine Own.put ?_ _ _)))
  have ow5 : Own W0 (w.heap.size + 1 + 1) 37 #[.int .i64 c1, .int .i64 c2] := hW0e ▸ (by repeat' (first | (with_reducible assumption) | (with_reducible refine Own.drawnN ?_ _) | (with_reducible refine Own.drawn ?_) | (with_reducible refine Own.made_at ?_; first | rfl | (simp; done) | omega | (simp; omega)) | (with_reducible refine Own.more ?_ _) | (with_reducible refine Own.apart ?_ ?_ _ _; rotate_left; first | omega | (simp; done) | (simp; omega)) | (refine Own.put ?_ _ _)))
  have hW0 : Bel w.heap.size w W0 := hW0e ▸ (by repeat' (first | (with_reducible exact Bel.refl _ _) | (with_reducible assumption) | (with_reducible refine bel_drewN ?_ _) | (with_reducible refine Bel.drew ?_) | (with_reducible refine Bel.alloc ?_ ?_ _) | (with_reducible refine Bel.setCell ?_ ?_ _) | (with_reducible refine thenB ?_ (by with_reducible assumption) ?_) | (with_reducible exact Nat.le_refl _) | (with_reducible exact Nat.le_succ _) | (with_reducible exact Nat.le_succ_of_le (by with_reducible assumption)) | omega | (simp; done) | (simp; omega) | (exact Nat.le_succ _) | (exact Nat.le_succ_of_le (by with_reducible assumption))))
  clear hW0e
  have z0 := ow5.in_
  go_upto_region 1 with fail
  refine region_memo_f (B := W0.heap.size) (L := .val (.pointer (some ⟨w.heap.size, 0, none⟩)) :: .val (.int .i64 a1) :: .val (.pointer (some ⟨(w.heap.size + 1), 1, none⟩)) :: .val (.int .i64 b2) :: .val (.int .i64 (a1 * b2)) :: .val (.pointer (some ⟨w.heap.size, 1, none⟩)) :: .val (.int .i64 a2) :: .val (.pointer (some ⟨(w.heap.size + 1), 0, none⟩)) :: .val (.int .i64 b1) :: .val (.int .i64 (a2 * b1)) :: .val (.int .i64 ((a1 * b2) - (a2 * b1))) :: .val (.pointer (some ⟨(w.heap.size + 1), 0, none⟩)) :: .val (.int .i64 b1) :: .val (.pointer (some ⟨(w.heap.size + 1 + 1), 1, none⟩)) :: .val (.int .i64 c2) :: .val (.int .i64 (b1 * c2)) :: .val (.int .i64 (((a1 * b2) - (a2 * b1)) + (b1 * c2))) :: .val (.pointer (some ⟨(w.heap.size + 1), 1, none⟩)) :: .val (.int .i64 b2) :: .val (.pointer (some ⟨(w.heap.size + 1 + 1), 0, none⟩)) :: .val (.int .i64 c1) :: .val (.int .i64 (b2 * c1)) :: .val (.int .i64 ((((a1 * b2) - (a2 * b1)) + (b1 * c2)) - (b2 * c1))) :: .val (.pointer (some ⟨(w.heap.size + 1 + 1), 0, none⟩)) :: .val (.int .i64 c1) :: .val (.pointer (some ⟨w.heap.size, 1, none⟩)) :: .val (.int .i64 a2) :: .val (.int .i64 (c1 * a2)) :: .val (.int .i64 (((((a1 * b2) - (a2 * b1)) + (b1 * c2)) - (b2 * c1)) + (c1 * a2))) :: .val (.pointer (some ⟨(w.heap.size + 1 + 1), 1, none⟩)) :: .val (.int .i64 c2) :: .val (.pointer (some ⟨w.heap.size, 0, none⟩)) :: .val (.int .i64 a1) :: .val (.int .i64 (c2 * a1)) :: .val (.int .i64 ((((((a1 * b2) - (a2 * b1)) + (b1 * c2)) - (b2 * c1)) + (c1 * a2)) - (c2 * a1))) :: .val (.int .i64 ((((((a1 * b2) - (a2 * b1)) + (b1 * c2)) - (b2 * c1)) + (c1 * a2)) - (c2 * a1))) :: []) (by kernel_rfl) (Nat.le_refl _) ((by exact trivial))
    ⟨fun a w R => fa_P_0 (R.slot 3 rfl), fun a w R => ld_int (R.val 0) (R.keep ow3 trivial) rfl, fun a w R => fa_P_1 (R.slot 4 rfl), fun a w R => ld_int (R.val 2) (R.keep ow4 trivial) rfl, fun a w R => n_mul_tt (R.val 1) (R.val 3) (by first | rfl | exact tn_wrap _ _ | exact tn_negw _ | (simp only [IntKind.wrap_i64]; omega)), fun a w R => fa_P_1 (R.slot 3 rfl), fun a w R => ld_int (R.val 5) (R.keep ow3 trivial) rfl, fun a w R => fa_P_0 (R.slot 4 rfl), fun a w R => ld_int (R.val 7) (R.keep ow4 trivial) rfl, fun a w R => n_mul_tt (R.val 6) (R.val 8) (by first | rfl | exact tn_wrap _ _ | exact tn_negw _ | (simp only [IntKind.wrap_i64]; omega)), fun a w R => n_sub_tt (R.val 4) (R.val 9) (by first | rfl | exact tn_wrap _ _ | exact tn_negw _ | (simp only [IntKind.wrap_i64]; omega)), fun a w R => fa_P_0 (R.slot 4 rfl), fun a w R => ld_int (R.val 11) (R.keep ow4 trivial) rfl, fun a w R => fa_P_1 (R.slot 5 rfl), fun a w R => ld_int (R.val 13) (R.keep ow5 trivial) rfl, fun a w R => n_mul_tt (R.val 12) (R.val 14) (by first | rfl | exact tn_wrap _ _ | exact tn_negw _ | (simp only [IntKind.wrap_i64]; omega)), fun a w R => n_add_tt (R.val 10) (R.val 15) (by first | rfl | exact tn_wrap _ _ | exact tn_negw _ | (simp only [IntKind.wrap_i64]; omega)), fun a w R => fa_P_1 (R.slot 4 rfl), fun a w R => ld_int (R.val 17) (R.keep ow4 trivial) rfl, fun a w R => fa_P_0 (R.slot 5 rfl), fun a w R => ld_int (R.val 19) (R.keep ow5 trivial) rfl, fun a w R => n_mul_tt (R.val 18) (R.val 20) (by first | rfl | exact tn_wrap _ _ | exact tn_negw _ | (simp only [IntKind.wrap_i64]; omega)), fun a w R => n_sub_tt (R.val 16) (R.val 21) (by first | rfl | exact tn_wrap _ _ | exact tn_negw _ | (simp only [IntKind.wrap_i64]; omega)), fun a w R => fa_P_0 (R.slot 5 rfl), fun a w R => ld_int (R.val 23) (R.keep ow5 trivial) rfl, fun a w R => fa_P_1 (R.slot 3 rfl), fun a w R => ld_int (R.val 25) (R.keep ow3 trivial) rfl, fun a w R => n_mul_tt (R.val 24) (R.val 26) (by first | rfl | exact tn_wrap _ _ | exact tn_negw _ | (simp only [IntKind.wrap_i64]; omega)), fun a w R => n_add_tt (R.val 22) (R.val 27) (by first | rfl | exact tn_wrap _ _ | exact tn_negw _ | (simp only [IntKind.wrap_i64]; omega)), fun a w R => fa_P_1 (R.slot 5 rfl), fun a w R => ld_int (R.val 29) (R.keep ow5 trivial) rfl, fun a w R => fa_P_0 (R.slot 3 rfl), fun a w R => ld_int (R.val 31) (R.keep ow3 trivial) rfl, fun a w R => n_mul_tt (R.val 30) (R.val 32) (by first | rfl | exact tn_wrap _ _ | exact tn_negw _ | (simp only [IntKind.wrap_i64]; omega)), fun a w R => n_sub_tt (R.val 28) (R.val 33) (by first | rfl | exact tn_wrap _ _ | exact tn_negw _ | (simp only [IntKind.wrap_i64]; omega)), fun a w R => asg (R.val 34), trivial⟩ (fun act_ W1 I => ?_)
  rw [I.act [(7, .pointer (some ⟨w.heap.size, 0, none⟩)), (8, .int .i64 a1), (9, .pointer (some ⟨(w.heap.size + 1), 1, none⟩)), (10, .int .i64 b2), (11, .int .i64 (a1 * b2)), (12, .pointer (some ⟨w.heap.size, 1, none⟩)), (13, .int .i64 a2), (14, .pointer (some ⟨(w.heap.size + 1), 0, none⟩)), (15, .int .i64 b1), (16, .int .i64 (a2 * b1)), (17, .int .i64 ((a1 * b2) - (a2 * b1))), (18, .pointer (some ⟨(w.heap.size + 1), 0, none⟩)), (19, .int .i64 b1), (20, .pointer (some ⟨(w.heap.size + 1 + 1), 1, none⟩)), (21, .int .i64 c2), (22, .int .i64 (b1 * c2)), (23, .int .i64 (((a1 * b2) - (a2 * b1)) + (b1 * c2))), (24, .pointer (some ⟨(w.heap.size + 1), 1, none⟩)), (25, .int .i64 b2), (26, .pointer (some ⟨(w.heap.size + 1 + 1), 0, none⟩)), (27, .int .i64 c1), (28, .int .i64 (b2 * c1)), (29, .int .i64 ((((a1 * b2) - (a2 * b1)) + (b1 * c2)) - (b2 * c1))), (30, .pointer (some ⟨(w.heap.size + 1 + 1), 0, none⟩)), (31, .int .i64 c1), (32, .pointer (some ⟨w.heap.size, 1, none⟩)), (33, .int .i64 a2), (34, .int .i64 (c1 * a2)), (35, .int .i64 (((((a1 * b2) - (a2 * b1)) + (b1 * c2)) - (b2 * c1)) + (c1 * a2))), (36, .pointer (some ⟨(w.heap.size + 1 + 1), 1, none⟩)), (37, .int .i64 c2), (38, .pointer (some ⟨w.heap.size, 0, none⟩)), (39, .int .i64 a1), (40, .int .i64 (c2 * a1)), (41, .int .i64 ((((((a1 * b2) - (a2 * b1)) + (b1 * c2)) - (b2 * c1)) + (c1 * a2)) - (c2 * a1))), (6, .int .i64 ((((((a1 * b2) - (a2 * b1)) + (b1 * c2)) - (b2 * c1)) + (c1 * a2)) - (c2 * a1)))]
    ⟨I.val 0, I.val 1, I.val 2, I.val 3, I.val 4, I.val 5, I.val 6, I.val 7, I.val 8, I.val 9, I.val 10, I.val 11, I.val 12, I.val 13, I.val 14, I.val 15, I.val 16, I.val 17, I.val 18, I.val 19, I.val 20, I.val 21, I.val 22, I.val 23, I.val 24, I.val 25, I.val 26, I.val 27, I.val 28, I.val 29, I.val 30, I.val 31, I.val 32, I.val 33, I.val 34, I.val 35, trivial⟩ rfl]
  have sW1 : W0.heap.size ≤ W1.heap.size := I.below.size
  replace ow3 := I.keep ow3 trivial
  replace ow4 := I.keep ow4 trivial
  replace ow5 := I.keep ow5 trivial
  have hW1 : Bel w.heap.size w W1 := thenB hW0 I.below hW0.size
  clear I
  simp only [List.foldl_cons, List.foldl_nil, List.setIfInBounds_toArray, List.set_cons_zero, List.set_cons_succ]
  clear ow3 ow4 ow5
  go_wp2
  try simp only [setCell_drawn]
  refine bodyPost_ret (by first | (simp [results, Try.results73, go_sem]; done) | (simp [results, Try.results73, go_sem]; rfl)) rfl ⟨?_, hW1⟩
  refine ret_eq ?_; exact ar_ref _ _ _ _ _ _
set_option maxHeartbeats 16000000 in
set_option maxRecDepth 20000 in
theorem RTurn_in {a1 a2 b1 b2 c1 c2 : Int} (ra : Rng a1 a2) (rb : Rng b1 b2) (rc : Rng c1 c2) (w : World) : Calls Try.prog 56 #[.agg #[.int .i64 a1, .int .i64 a2], .agg #[.int .i64 b1, .int .i64 b2], .agg #[.int .i64 c1, .int .i64 c2]] w fun e w' => e = .returned (.int .i64 (tn a1 a2 b1 b2 c1 c2)) ∧ Bel w.heap.size w w' := by
  have hin_ := Lib.hid (in3_iff.2 ⟨ra, rb, rc⟩)
  clear ra rb rc
  go_enter Try.func56, Try.ntmps56
  go_upto_region 1 with fail
  go_name_world W0 hW0e
  have ow3 : Own W0 w.heap.size 37 #[.int .i64 a1, .int .i64 a2] := hW0e ▸ (by repeat' (first | (with_reducible assumption) | (with_reducible refine Own.drawnN ?_ _) | (with_reducible refine Own.drawn ?_) | (with_reducible refine Own.made_at ?_; first | rfl | (simp; done) | omega | (simp; omega)) | (with_reducible refine Own.more ?_ _) | (with_reducible refine Own.apart ?_ ?_ _ _; rotate_left; first | omega | (simp; done) | (simp; omega)) | (refine Own.put ?_ _ _)))
  have ow4 : Own W0 (w.heap.size + 1) 37 #[.int .i64 b1, .int .i64 b2] := hW0e ▸ (by repeat' (first | (with_reducible assumption) | (with_reducible refine Own.drawnN ?_ _) | (with_reducible refine Own.drawn ?_) | (with_reducible refine Own.made_at ?_; first | rfl | (simp; done) | omega | (simp; omega)) | (with_reducible refine Own.more ?_ _) | (with_reducible refine Own.apart ?_ ?_ _ _; rotate_left; first | omega | (simp; done) | (simp; omega)) | (refine Own.put ?_ _ _)))
  have ow5 : Own W0 (w.heap.size + 1 + 1) 37 #[.int .i64 c1, .int .i64 c2] := hW0e ▸ (by repeat' (first | (with_reducible assumption) | (with_reducible refine Own.drawnN ?_ _) | (with_reducible refine Own.drawn ?_) | (with_reducible refine Own.made_at ?_; first | rfl | (simp; done) | omega | (simp; omega)) | (with_reducible refine Own.more ?_ _) | (with_reducible refine Own.apart ?_ ?_ _ _; rotate_left; first | omega | (simp; done) | (simp; omega)) | (refine Own.put ?_ _ _)))
  have hW0 : Bel w.heap.size w W0 := hW0e ▸ (by repeat' (first | (with_reducible exact Bel.refl _ _) | (with_reducible assumption) | (with_reducible refine bel_drewN ?_ _) | (with_reducible refine Bel.drew ?_) | (with_reducible refine Bel.alloc ?_ ?_ _) | (with_reducible refine Bel.setCell ?_ ?_ _) | (with_reducible refine thenB ?_ (by with_reducible assumption) ?_) | (with_reducible exact Nat.le_refl _) | (with_reducible exact Nat.le_succ _) | (with_reducible exact Nat.le_succ_of_le (by with_reducible assumption)) | omega | (simp; done) | (simp; omega) | (exact Nat.le_succ _) | (exact Nat.le_succ_of_le (by with_reducible assumption))))
  clear hW0e
  have z0 := ow5.in_
  go_upto_region 1 with fail
  refine region_memo_f (B := W0.heap.size) (L := .val (.agg #[.int .i64 a1, .int .i64 a2]) :: .val (.agg #[.int .i64 b1, .int .i64 b2]) :: .val (.agg #[.int .i64 c1, .int .i64 c2]) :: .val (.int .i64 (ar a1 a2 b1 b2 c1 c2)) :: .val (.int .i64 (ar a1 a2 b1 b2 c1 c2)) :: []) (by kernel_rfl) (Nat.le_refl _) ((by exact trivial))
    ⟨fun a w R => ld_P (R.slot 3 rfl) (R.keep ow3 trivial) rfl rfl, fun a w R => ld_P (R.slot 4 rfl) (R.keep ow4 trivial) rfl rfl, fun a w R => ld_P (R.slot 5 rfl) (R.keep ow5 trivial) rfl rfl, fun a w R => cl_ttt (enter_at Try.func73) (R.val 0) (R.val 1) (R.val 2) (Area_in (in3_iff.1 hin_.out).1 (in3_iff.1 hin_.out).2.1 (in3_iff.1 hin_.out).2.2 _), fun a w R => asg (R.val 3), trivial⟩ (fun act_ W1 I => ?_)
  rw [I.act [(8, .agg #[.int .i64 a1, .int .i64 a2]), (9, .agg #[.int .i64 b1, .int .i64 b2]), (10, .agg #[.int .i64 c1, .int .i64 c2]), (11, .int .i64 (ar a1 a2 b1 b2 c1 c2)), (7, .int .i64 (ar a1 a2 b1 b2 c1 c2))]
    ⟨I.val 0, I.val 1, I.val 2, I.val 3, I.val 4, trivial⟩ rfl]
  have sW1 : W0.heap.size ≤ W1.heap.size := I.below.size
  replace ow3 := I.keep ow3 trivial
  replace ow4 := I.keep ow4 trivial
  replace ow5 := I.keep ow5 trivial
  have hW1 : Bel w.heap.size w W1 := thenB hW0 I.below hW0.size
  clear I
  simp only [List.foldl_cons, List.foldl_nil, List.setIfInBounds_toArray, List.set_cons_zero, List.set_cons_succ]
  rcases Bool.eq_false_or_eq_true (decide (0 < (ar a1 a2 b1 b2 c1 c2))) with t1 | t1
  · have t1_ := Lib.hid t1
    clear t1
    go_upto_region 2 with fail
    refine region_memo_f (B := W1.heap.size) (L := .val (.int .i64 (ar a1 a2 b1 b2 c1 c2)) :: .val (.bool true) :: []) (by kernel_rfl) (Nat.le_refl _) ((by exact trivial))
      ⟨fun a w R => mv (R.slot 7 rfl), fun a w R => c_gtr_tk (R.val 0) (Try.underlying3) t1_.out, trivial⟩ (fun act_ W2 I => ?_)
    rw [I.act [(12, .int .i64 (ar a1 a2 b1 b2 c1 c2)), (13, .bool true)]
      ⟨I.val 0, I.val 1, trivial⟩ rfl]
    have sW2 : W1.heap.size ≤ W2.heap.size := I.below.size
    replace ow3 := I.keep ow3 trivial
    replace ow4 := I.keep ow4 trivial
    replace ow5 := I.keep ow5 trivial
    have hW2 : Bel w.heap.size w W2 := thenB hW1 I.below hW1.size
    clear I
    simp only [List.foldl_cons, List.foldl_nil, List.setIfInBounds_toArray, List.set_cons_zero, List.set_cons_succ]
    go_upto_region 3 with fail
    refine region_memo_f (B := W2.heap.size) (L := .val (.int .i64 1) :: []) (by kernel_rfl) (Nat.le_refl _) ((by exact trivial))
      ⟨fun a w R => asc, trivial⟩ (fun act_ W3 I => ?_)
    rw [I.act [(6, .int .i64 1)]
      ⟨I.val 0, trivial⟩ rfl]
    have sW3 : W2.heap.size ≤ W3.heap.size := I.below.size
    replace ow3 := I.keep ow3 trivial
    replace ow4 := I.keep ow4 trivial
    replace ow5 := I.keep ow5 trivial
    have hW3 : Bel w.heap.size w W3 := thenB hW2 I.below hW2.size
    clear I
    simp only [List.foldl_cons, List.foldl_nil, List.setIfInBounds_toArray, List.set_cons_zero, List.set_cons_succ]
    clear ow3 ow4 ow5
    go_wp2
    try simp only [setCell_drawn]
    refine bodyPost_ret (by first | (simp [results, Try.results56, go_sem]; done) | (simp [results, Try.results56, go_sem]; rfl)) rfl ⟨?_, hW3⟩
    refine ret_eq ?_; unfold tn sg; have e0 := t1_.out; simp only [decide_eq_true_eq, decide_eq_false_iff_not] at *; (repeat' split) <;> omega
  · have t1_ := Lib.hid t1
    clear t1
    go_upto_region 2 with fail
    refine region_memo_f (B := W1.heap.size) (L := .val (.int .i64 (ar a1 a2 b1 b2 c1 c2)) :: .val (.bool false) :: []) (by kernel_rfl) (Nat.le_refl _) ((by exact trivial))
      ⟨fun a w R => mv (R.slot 7 rfl), fun a w R => c_gtr_tk (R.val 0) (Try.underlying3) t1_.out, trivial⟩ (fun act_ W2 I => ?_)
    rw [I.act [(12, .int .i64 (ar a1 a2 b1 b2 c1 c2)), (13, .bool false)]
      ⟨I.val 0, I.val 1, trivial⟩ rfl]
    have sW2 : W1.heap.size ≤ W2.heap.size := I.below.size
    replace ow3 := I.keep ow3 trivial
    replace ow4 := I.keep ow4 trivial
    replace ow5 := I.keep ow5 trivial
    have hW2 : Bel w.heap.size w W2 := thenB hW1 I.below hW1.size
    clear I
    simp only [List.foldl_cons, List.foldl_nil, List.setIfInBounds_toArray, List.set_cons_zero, List.set_cons_succ]
    rcases Bool.eq_false_or_eq_true (decide ((ar a1 a2 b1 b2 c1 c2) < 0)) with t2 | t2
    · have t2_ := Lib.hid t2
      clear t2
      go_upto_region 4 with fail
      refine region_memo_f (B := W2.heap.size) (L := .val (.int .i64 (ar a1 a2 b1 b2 c1 c2)) :: .val (.bool true) :: []) (by kernel_rfl) (Nat.le_refl _) ((by exact trivial))
        ⟨fun a w R => mv (R.slot 7 rfl), fun a w R => c_lss_tk (R.val 0) (Try.underlying3) t2_.out, trivial⟩ (fun act_ W3 I => ?_)
      rw [I.act [(14, .int .i64 (ar a1 a2 b1 b2 c1 c2)), (15, .bool true)]
        ⟨I.val 0, I.val 1, trivial⟩ rfl]
      have sW3 : W2.heap.size ≤ W3.heap.size := I.below.size
      replace ow3 := I.keep ow3 trivial
      replace ow4 := I.keep ow4 trivial
      replace ow5 := I.keep ow5 trivial
      have hW3 : Bel w.heap.size w W3 := thenB hW2 I.below hW2.size
      clear I
      simp only [List.foldl_cons, List.foldl_nil, List.setIfInBounds_toArray, List.set_cons_zero, List.set_cons_succ]
      go_upto_region 5 with fail
      refine region_memo_f (B := W3.heap.size) (L := .val (.int .i64 (-1)) :: []) (by kernel_rfl) (Nat.le_refl _) ((by exact trivial))
        ⟨fun a w R => asc, trivial⟩ (fun act_ W4 I => ?_)
      rw [I.act [(6, .int .i64 (-1))]
        ⟨I.val 0, trivial⟩ rfl]
      have sW4 : W3.heap.size ≤ W4.heap.size := I.below.size
      replace ow3 := I.keep ow3 trivial
      replace ow4 := I.keep ow4 trivial
      replace ow5 := I.keep ow5 trivial
      have hW4 : Bel w.heap.size w W4 := thenB hW3 I.below hW3.size
      clear I
      simp only [List.foldl_cons, List.foldl_nil, List.setIfInBounds_toArray, List.set_cons_zero, List.set_cons_succ]
      clear ow3 ow4 ow5
      go_wp2
      try simp only [setCell_drawn]
      refine bodyPost_ret (by first | (simp [results, Try.results56, go_sem]; done) | (simp [results, Try.results56, go_sem]; rfl)) rfl ⟨?_, hW4⟩
      refine ret_eq ?_; unfold tn sg; have e0 := t1_.out; have e1 := t2_.out; simp only [decide_eq_true_eq, decide_eq_false_iff_not] at *; (repeat' split) <;> omega
    · have t2_ := Lib.hid t2
      clear t2
      go_upto_region 4 with fail
      refine region_memo_f (B := W2.heap.size) (L := .val (.int .i64 (ar a1 a2 b1 b2 c1 c2)) :: .val (.bool false) :: []) (by kernel_rfl) (Nat.le_refl _) ((by exact trivial))
        ⟨fun a w R => mv (R.slot 7 rfl), fun a w R => c_lss_tk (R.val 0) (Try.underlying3) t2_.out, trivial⟩ (fun act_ W3 I => ?_)
      rw [I.act [(14, .int .i64 (ar a1 a2 b1 b2 c1 c2)), (15, .bool false)]
        ⟨I.val 0, I.val 1, trivial⟩ rfl]
      have sW3 : W2.heap.size ≤ W3.heap.size := I.below.size
      replace ow3 := I.keep ow3 trivial
      replace ow4 := I.keep ow4 trivial
      replace ow5 := I.keep ow5 trivial
      have hW3 : Bel w.heap.size w W3 := thenB hW2 I.below hW2.size
      clear I
      simp only [List.foldl_cons, List.foldl_nil, List.setIfInBounds_toArray, List.set_cons_zero, List.set_cons_succ]
      go_upto_region 6 with fail
      refine region_memo_f (B := W3.heap.size) (L := .val (.int .i64 0) :: []) (by kernel_rfl) (Nat.le_refl _) ((by exact trivial))
        ⟨fun a w R => asc, trivial⟩ (fun act_ W4 I => ?_)
      rw [I.act [(6, .int .i64 0)]
        ⟨I.val 0, trivial⟩ rfl]
      have sW4 : W3.heap.size ≤ W4.heap.size := I.below.size
      replace ow3 := I.keep ow3 trivial
      replace ow4 := I.keep ow4 trivial
      replace ow5 := I.keep ow5 trivial
      have hW4 : Bel w.heap.size w W4 := thenB hW3 I.below hW3.size
      clear I
      simp only [List.foldl_cons, List.foldl_nil, List.setIfInBounds_toArray, List.set_cons_zero, List.set_cons_succ]
      clear ow3 ow4 ow5
      go_wp2
      try simp only [setCell_drawn]
      refine bodyPost_ret (by first | (simp [results, Try.results56, go_sem]; done) | (simp [results, Try.results56, go_sem]; rfl)) rfl ⟨?_, hW4⟩
      refine ret_eq ?_; unfold tn sg; have e0 := t1_.out; have e1 := t2_.out; simp only [decide_eq_true_eq, decide_eq_false_iff_not] at *; (repeat' split) <;> omega
theorem Within_in {p1 p2 a1 a2 b1 b2 : Int} (rp : Rng p1 p2) (ra : Rng a1 a2) (rb : Rng b1 b2) (w : World) : Calls Try.prog 72 #[.agg #[.int .i64 p1, .int .i64 p2], .agg #[.int .i64 a1, .int .i64 a2], .agg #[.int .i64 b1, .int .i64 b2]] w fun e w' => e = .returned (.bool (wiB p1 p2 a1 a2 b1 b2)) ∧ Bel w.heap.size w w' := by
  by_cases h : tn a1 a2 b1 b2 p1 p2 = 0
  · refine Within_walk h (fun w => ?_) w
    have := RTurn_in ra rb rp w
    rw [h] at this
    exact this
  · exact Within_no rfl h (fun w => RTurn_in ra rb rp w) w
theorem Within_is {p1 p2 a1 a2 b1 b2 : Int} {b : Bool} (rp : Rng p1 p2) (ra : Rng a1 a2) (rb : Rng b1 b2) (h : wiB p1 p2 a1 a2 b1 b2 = b) (w : World) : Calls Try.prog 72 #[.agg #[.int .i64 p1, .int .i64 p2], .agg #[.int .i64 a1, .int .i64 a2], .agg #[.int .i64 b1, .int .i64 b2]] w fun e w' => e = .returned (.bool b) ∧ Bel w.heap.size w w' := h ▸ Within_in rp ra rb w
def roB (p1 p2 a1 a2 b1 b2 : Int) : Bool := wiB p1 p2 a1 a2 b1 b2 && !(decide (p1 = a1 ∧ p2 = a2)) && !(decide (p1 = b1 ∧ p2 = b2))
set_option maxHeartbeats 16000000 in
set_option maxRecDepth 20000 in
theorem ROn_in {p1 p2 a1 a2 b1 b2 : Int} (rp : Rng p1 p2) (ra : Rng a1 a2) (rb : Rng b1 b2) (w : World) : Calls Try.prog 53 #[.agg #[.int .i64 p1, .int .i64 p2], .agg #[.int .i64 a1, .int .i64 a2], .agg #[.int .i64 b1, .int .i64 b2]] w fun e w' => e = .returned (.bool (roB p1 p2 a1 a2 b1 b2)) ∧ Bel w.heap.size w w' := by
  have hin_ := Lib.hid (in3_iff.2 ⟨rp, ra, rb⟩)
  clear rp ra rb
  go_enter Try.func53, Try.ntmps53
  go_upto_region 1 with fail
  go_name_world W0 hW0e
  have ow3 : Own W0 w.heap.size 37 #[.int .i64 p1, .int .i64 p2] := hW0e ▸ (by repeat' (first | (with_reducible assumption) | (with_reducible refine Own.drawnN ?_ _) | (with_reducible refine Own.drawn ?_) | (with_reducible refine Own.made_at ?_; first | rfl | (simp; done) | omega | (simp; omega)) | (with_reducible refine Own.more ?_ _) | (with_reducible refine Own.apart ?_ ?_ _ _; rotate_left; first | omega | (simp; done) | (simp; omega)) | (refine Own.put ?_ _ _)))
  have ow4 : Own W0 (w.heap.size + 1) 37 #[.int .i64 a1, .int .i64 a2] := hW0e ▸ (by repeat' (first | (with_reducible assumption) | (with_reducible refine Own.drawnN ?_ _) | (with_reducible refine Own.drawn ?_) | (with_reducible refine Own.made_at ?_; first | rfl | (simp; done) | omega | (simp; omega)) | (with_reducible refine Own.more ?_ _) | (with_reducible refine Own.apart ?_ ?_ _ _; rotate_left; first | omega | (simp; done) | (simp; omega)) | (refine Own.put ?_ _ _)))
  have ow5 : Own W0 (w.heap.size + 1 + 1) 37 #[.int .i64 b1, .int .i64 b2] := hW0e ▸ (by repeat' (first | (with_reducible assumption) | (with_reducible refine Own.drawnN ?_ _) | (with_reducible refine Own.drawn ?_) | (with_reducible refine Own.made_at ?_; first | rfl | (simp; done) | omega | (simp; omega)) | (with_reducible refine Own.more ?_ _) | (with_reducible refine Own.apart ?_ ?_ _ _; rotate_left; first | omega | (simp; done) | (simp; omega)) | (refine Own.put ?_ _ _)))
  have hW0 : Bel w.heap.size w W0 := hW0e ▸ (by repeat' (first | (with_reducible exact Bel.refl _ _) | (with_reducible assumption) | (with_reducible refine bel_drewN ?_ _) | (with_reducible refine Bel.drew ?_) | (with_reducible refine Bel.alloc ?_ ?_ _) | (with_reducible refine Bel.setCell ?_ ?_ _) | (with_reducible refine thenB ?_ (by with_reducible assumption) ?_) | (with_reducible exact Nat.le_refl _) | (with_reducible exact Nat.le_succ _) | (with_reducible exact Nat.le_succ_of_le (by with_reducible assumption)) | omega | (simp; done) | (simp; omega) | (exact Nat.le_succ _) | (exact Nat.le_succ_of_le (by with_reducible assumption))))
  clear hW0e
  have z0 := ow5.in_
  rcases Bool.eq_false_or_eq_true (wiB p1 p2 a1 a2 b1 b2) with t1 | t1
  · have t1_ := Lib.hid t1
    clear t1
    rcases Bool.eq_false_or_eq_true (decide (p1 = a1 ∧ p2 = a2)) with t2 | t2
    · have t2_ := Lib.hid t2
      clear t2
      go_upto_region 1 with fail
      refine region_memo_f (B := W0.heap.size) (L := .val (.agg #[.int .i64 p1, .int .i64 p2]) :: .val (.agg #[.int .i64 a1, .int .i64 a2]) :: .val (.agg #[.int .i64 b1, .int .i64 b2]) :: .val (.bool true) :: .val (.bool true) :: .val (.agg #[.int .i64 p1, .int .i64 p2]) :: .val (.agg #[.int .i64 a1, .int .i64 a2]) :: .val (.bool false) :: .val (.bool false) :: .val (.bool false) :: .skip :: .skip :: .skip :: .val (.bool false) :: .val (.bool false) :: []) (by kernel_rfl) (Nat.le_refl _) ((by exact trivial))
        ⟨fun a w R => ld_P (R.slot 3 rfl) (R.keep ow3 trivial) rfl rfl, fun a w R => ld_P (R.slot 4 rfl) (R.keep ow4 trivial) rfl rfl, fun a w R => ld_P (R.slot 5 rfl) (R.keep ow5 trivial) rfl rfl, fun a w R => cl_ttt (enter_at Try.func72) (R.val 0) (R.val 1) (R.val 2) (Within_is (in3_iff.1 hin_.out).1 (in3_iff.1 hin_.out).2.1 (in3_iff.1 hin_.out).2.2 t1_.out _), fun a w R => mv (R.val 3), fun a w R => ld_P (R.slot 3 rfl) (R.keep ow3 trivial) rfl rfl, fun a w R => ld_P (R.slot 4 rfl) (R.keep ow4 trivial) rfl rfl, fun a w R => (e_neq_P (R.val 5) (R.val 6) ((fun w => (eq_Point _ _ _ _ w).trans (by rw [t2_.out])))), fun a w R => pickt (R.val 4) (R.val 7), fun a w R => mv (R.val 8), fun a w R => True.intro, fun a w R => True.intro, fun a w R => True.intro, fun a w R => pickf (R.val 9) (R.goneS 12), fun a w R => asg (R.val 13), trivial⟩ (fun act_ W1 I => ?_)
      rw [I.act [(7, .agg #[.int .i64 p1, .int .i64 p2]), (8, .agg #[.int .i64 a1, .int .i64 a2]), (9, .agg #[.int .i64 b1, .int .i64 b2]), (10, .bool true), (11, .bool true), (12, .agg #[.int .i64 p1, .int .i64 p2]), (13, .agg #[.int .i64 a1, .int .i64 a2]), (14, .bool false), (15, .bool false), (16, .bool false), (17, undef), (18, undef), (19, undef), (20, .bool false), (6, .bool false)]
        ⟨I.val 0, I.val 1, I.val 2, I.val 3, I.val 4, I.val 5, I.val 6, I.val 7, I.val 8, I.val 9, I.gone 10, I.gone 11, I.gone 12, I.val 13, I.val 14, trivial⟩ rfl]
      have sW1 : W0.heap.size ≤ W1.heap.size := I.below.size
      replace ow3 := I.keep ow3 trivial
      replace ow4 := I.keep ow4 trivial
      replace ow5 := I.keep ow5 trivial
      have hW1 : Bel w.heap.size w W1 := thenB hW0 I.below hW0.size
      clear I
      simp only [List.foldl_cons, List.foldl_nil, List.setIfInBounds_toArray, List.set_cons_zero, List.set_cons_succ]
      clear ow3 ow4 ow5
      go_wp2
      try simp only [setCell_drawn]
      refine bodyPost_ret (by first | (simp [results, Try.results53, go_sem]; done) | (simp [results, Try.results53, go_sem]; rfl)) rfl ⟨?_, hW1⟩
      refine retb_eq ?_; simp only [roB, t1_.out, t2_.out]; rfl
    · have t2_ := Lib.hid t2
      clear t2
      rcases Bool.eq_false_or_eq_true (decide (p1 = b1 ∧ p2 = b2)) with t3 | t3
      · have t3_ := Lib.hid t3
        clear t3
        go_upto_region 1 with fail
        refine region_memo_f (B := W0.heap.size) (L := .val (.agg #[.int .i64 p1, .int .i64 p2]) :: .val (.agg #[.int .i64 a1, .int .i64 a2]) :: .val (.agg #[.int .i64 b1, .int .i64 b2]) :: .val (.bool true) :: .val (.bool true) :: .val (.agg #[.int .i64 p1, .int .i64 p2]) :: .val (.agg #[.int .i64 a1, .int .i64 a2]) :: .val (.bool true) :: .val (.bool true) :: .val (.bool true) :: .val (.agg #[.int .i64 p1, .int .i64 p2]) :: .val (.agg #[.int .i64 b1, .int .i64 b2]) :: .val (.bool false) :: .val (.bool false) :: .val (.bool false) :: []) (by kernel_rfl) (Nat.le_refl _) ((by exact trivial))
          ⟨fun a w R => ld_P (R.slot 3 rfl) (R.keep ow3 trivial) rfl rfl, fun a w R => ld_P (R.slot 4 rfl) (R.keep ow4 trivial) rfl rfl, fun a w R => ld_P (R.slot 5 rfl) (R.keep ow5 trivial) rfl rfl, fun a w R => cl_ttt (enter_at Try.func72) (R.val 0) (R.val 1) (R.val 2) (Within_is (in3_iff.1 hin_.out).1 (in3_iff.1 hin_.out).2.1 (in3_iff.1 hin_.out).2.2 t1_.out _), fun a w R => mv (R.val 3), fun a w R => ld_P (R.slot 3 rfl) (R.keep ow3 trivial) rfl rfl, fun a w R => ld_P (R.slot 4 rfl) (R.keep ow4 trivial) rfl rfl, fun a w R => (e_neq_P (R.val 5) (R.val 6) ((fun w => (eq_Point _ _ _ _ w).trans (by rw [t2_.out])))), fun a w R => pickt (R.val 4) (R.val 7), fun a w R => mv (R.val 8), fun a w R => ld_P (R.slot 3 rfl) (R.keep ow3 trivial) rfl rfl, fun a w R => ld_P (R.slot 5 rfl) (R.keep ow5 trivial) rfl rfl, fun a w R => (e_neq_P (R.val 10) (R.val 11) ((fun w => (eq_Point _ _ _ _ w).trans (by rw [t3_.out])))), fun a w R => pickt (R.val 9) (R.val 12), fun a w R => asg (R.val 13), trivial⟩ (fun act_ W1 I => ?_)
        rw [I.act [(7, .agg #[.int .i64 p1, .int .i64 p2]), (8, .agg #[.int .i64 a1, .int .i64 a2]), (9, .agg #[.int .i64 b1, .int .i64 b2]), (10, .bool true), (11, .bool true), (12, .agg #[.int .i64 p1, .int .i64 p2]), (13, .agg #[.int .i64 a1, .int .i64 a2]), (14, .bool true), (15, .bool true), (16, .bool true), (17, .agg #[.int .i64 p1, .int .i64 p2]), (18, .agg #[.int .i64 b1, .int .i64 b2]), (19, .bool false), (20, .bool false), (6, .bool false)]
          ⟨I.val 0, I.val 1, I.val 2, I.val 3, I.val 4, I.val 5, I.val 6, I.val 7, I.val 8, I.val 9, I.val 10, I.val 11, I.val 12, I.val 13, I.val 14, trivial⟩ rfl]
        have sW1 : W0.heap.size ≤ W1.heap.size := I.below.size
        replace ow3 := I.keep ow3 trivial
        replace ow4 := I.keep ow4 trivial
        replace ow5 := I.keep ow5 trivial
        have hW1 : Bel w.heap.size w W1 := thenB hW0 I.below hW0.size
        clear I
        simp only [List.foldl_cons, List.foldl_nil, List.setIfInBounds_toArray, List.set_cons_zero, List.set_cons_succ]
        clear ow3 ow4 ow5
        go_wp2
        try simp only [setCell_drawn]
        refine bodyPost_ret (by first | (simp [results, Try.results53, go_sem]; done) | (simp [results, Try.results53, go_sem]; rfl)) rfl ⟨?_, hW1⟩
        refine retb_eq ?_; simp only [roB, t1_.out, t2_.out, t3_.out]; rfl
      · have t3_ := Lib.hid t3
        clear t3
        go_upto_region 1 with fail
        refine region_memo_f (B := W0.heap.size) (L := .val (.agg #[.int .i64 p1, .int .i64 p2]) :: .val (.agg #[.int .i64 a1, .int .i64 a2]) :: .val (.agg #[.int .i64 b1, .int .i64 b2]) :: .val (.bool true) :: .val (.bool true) :: .val (.agg #[.int .i64 p1, .int .i64 p2]) :: .val (.agg #[.int .i64 a1, .int .i64 a2]) :: .val (.bool true) :: .val (.bool true) :: .val (.bool true) :: .val (.agg #[.int .i64 p1, .int .i64 p2]) :: .val (.agg #[.int .i64 b1, .int .i64 b2]) :: .val (.bool true) :: .val (.bool true) :: .val (.bool true) :: []) (by kernel_rfl) (Nat.le_refl _) ((by exact trivial))
          ⟨fun a w R => ld_P (R.slot 3 rfl) (R.keep ow3 trivial) rfl rfl, fun a w R => ld_P (R.slot 4 rfl) (R.keep ow4 trivial) rfl rfl, fun a w R => ld_P (R.slot 5 rfl) (R.keep ow5 trivial) rfl rfl, fun a w R => cl_ttt (enter_at Try.func72) (R.val 0) (R.val 1) (R.val 2) (Within_is (in3_iff.1 hin_.out).1 (in3_iff.1 hin_.out).2.1 (in3_iff.1 hin_.out).2.2 t1_.out _), fun a w R => mv (R.val 3), fun a w R => ld_P (R.slot 3 rfl) (R.keep ow3 trivial) rfl rfl, fun a w R => ld_P (R.slot 4 rfl) (R.keep ow4 trivial) rfl rfl, fun a w R => (e_neq_P (R.val 5) (R.val 6) ((fun w => (eq_Point _ _ _ _ w).trans (by rw [t2_.out])))), fun a w R => pickt (R.val 4) (R.val 7), fun a w R => mv (R.val 8), fun a w R => ld_P (R.slot 3 rfl) (R.keep ow3 trivial) rfl rfl, fun a w R => ld_P (R.slot 5 rfl) (R.keep ow5 trivial) rfl rfl, fun a w R => (e_neq_P (R.val 10) (R.val 11) ((fun w => (eq_Point _ _ _ _ w).trans (by rw [t3_.out])))), fun a w R => pickt (R.val 9) (R.val 12), fun a w R => asg (R.val 13), trivial⟩ (fun act_ W1 I => ?_)
        rw [I.act [(7, .agg #[.int .i64 p1, .int .i64 p2]), (8, .agg #[.int .i64 a1, .int .i64 a2]), (9, .agg #[.int .i64 b1, .int .i64 b2]), (10, .bool true), (11, .bool true), (12, .agg #[.int .i64 p1, .int .i64 p2]), (13, .agg #[.int .i64 a1, .int .i64 a2]), (14, .bool true), (15, .bool true), (16, .bool true), (17, .agg #[.int .i64 p1, .int .i64 p2]), (18, .agg #[.int .i64 b1, .int .i64 b2]), (19, .bool true), (20, .bool true), (6, .bool true)]
          ⟨I.val 0, I.val 1, I.val 2, I.val 3, I.val 4, I.val 5, I.val 6, I.val 7, I.val 8, I.val 9, I.val 10, I.val 11, I.val 12, I.val 13, I.val 14, trivial⟩ rfl]
        have sW1 : W0.heap.size ≤ W1.heap.size := I.below.size
        replace ow3 := I.keep ow3 trivial
        replace ow4 := I.keep ow4 trivial
        replace ow5 := I.keep ow5 trivial
        have hW1 : Bel w.heap.size w W1 := thenB hW0 I.below hW0.size
        clear I
        simp only [List.foldl_cons, List.foldl_nil, List.setIfInBounds_toArray, List.set_cons_zero, List.set_cons_succ]
        clear ow3 ow4 ow5
        go_wp2
        try simp only [setCell_drawn]
        refine bodyPost_ret (by first | (simp [results, Try.results53, go_sem]; done) | (simp [results, Try.results53, go_sem]; rfl)) rfl ⟨?_, hW1⟩
        refine retb_eq ?_; simp only [roB, t1_.out, t2_.out, t3_.out]; rfl
  · have t1_ := Lib.hid t1
    clear t1
    go_upto_region 1 with fail
    refine region_memo_f (B := W0.heap.size) (L := .val (.agg #[.int .i64 p1, .int .i64 p2]) :: .val (.agg #[.int .i64 a1, .int .i64 a2]) :: .val (.agg #[.int .i64 b1, .int .i64 b2]) :: .val (.bool false) :: .val (.bool false) :: .skip :: .skip :: .skip :: .val (.bool false) :: .val (.bool false) :: .skip :: .skip :: .skip :: .val (.bool false) :: .val (.bool false) :: []) (by kernel_rfl) (Nat.le_refl _) ((by exact trivial))
      ⟨fun a w R => ld_P (R.slot 3 rfl) (R.keep ow3 trivial) rfl rfl, fun a w R => ld_P (R.slot 4 rfl) (R.keep ow4 trivial) rfl rfl, fun a w R => ld_P (R.slot 5 rfl) (R.keep ow5 trivial) rfl rfl, fun a w R => cl_ttt (enter_at Try.func72) (R.val 0) (R.val 1) (R.val 2) (Within_is (in3_iff.1 hin_.out).1 (in3_iff.1 hin_.out).2.1 (in3_iff.1 hin_.out).2.2 t1_.out _), fun a w R => mv (R.val 3), fun a w R => True.intro, fun a w R => True.intro, fun a w R => True.intro, fun a w R => pickf (R.val 4) (R.goneS 7), fun a w R => mv (R.val 8), fun a w R => True.intro, fun a w R => True.intro, fun a w R => True.intro, fun a w R => pickf (R.val 9) (R.goneS 12), fun a w R => asg (R.val 13), trivial⟩ (fun act_ W1 I => ?_)
    rw [I.act [(7, .agg #[.int .i64 p1, .int .i64 p2]), (8, .agg #[.int .i64 a1, .int .i64 a2]), (9, .agg #[.int .i64 b1, .int .i64 b2]), (10, .bool false), (11, .bool false), (12, undef), (13, undef), (14, undef), (15, .bool false), (16, .bool false), (17, undef), (18, undef), (19, undef), (20, .bool false), (6, .bool false)]
      ⟨I.val 0, I.val 1, I.val 2, I.val 3, I.val 4, I.gone 5, I.gone 6, I.gone 7, I.val 8, I.val 9, I.gone 10, I.gone 11, I.gone 12, I.val 13, I.val 14, trivial⟩ rfl]
    have sW1 : W0.heap.size ≤ W1.heap.size := I.below.size
    replace ow3 := I.keep ow3 trivial
    replace ow4 := I.keep ow4 trivial
    replace ow5 := I.keep ow5 trivial
    have hW1 : Bel w.heap.size w W1 := thenB hW0 I.below hW0.size
    clear I
    simp only [List.foldl_cons, List.foldl_nil, List.setIfInBounds_toArray, List.set_cons_zero, List.set_cons_succ]
    clear ow3 ow4 ow5
    go_wp2
    try simp only [setCell_drawn]
    refine bodyPost_ret (by first | (simp [results, Try.results53, go_sem]; done) | (simp [results, Try.results53, go_sem]; rfl)) rfl ⟨?_, hW1⟩
    refine retb_eq ?_; simp only [roB, t1_.out]; rfl
theorem ROn_is {p1 p2 a1 a2 b1 b2 : Int} {b : Bool} (rp : Rng p1 p2) (ra : Rng a1 a2) (rb : Rng b1 b2) (h : roB p1 p2 a1 a2 b1 b2 = b) (w : World) : Calls Try.prog 53 #[.agg #[.int .i64 p1, .int .i64 p2], .agg #[.int .i64 a1, .int .i64 a2], .agg #[.int .i64 b1, .int .i64 b2]] w fun e w' => e = .returned (.bool b) ∧ Bel w.heap.size w w' := h ▸ ROn_in rp ra rb w
end Go.Proofs.Ythakafnecddliaa
