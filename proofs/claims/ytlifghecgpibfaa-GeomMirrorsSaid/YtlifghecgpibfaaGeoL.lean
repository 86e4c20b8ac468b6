
/- flip and move of the laws; written by auto_geom4.py. Conditions: points in range. -/
import Derived.Test.YtlifghecgpibfaaGeoW
namespace Go.Proofs.Ytlifghecgpibfaa
open Go.ChangeShapes Go.WideShapes Go.ChangeAt Go.RowKit
set_option linter.unusedVariables false
set_option linter.unusedSimpArgs false

set_option maxHeartbeats 16000000 in
set_option maxRecDepth 20000 in
theorem flip_any {a1 a2 : Int}  (w : World) : Calls Try.prog 14 #[.agg #[.int .i64 a1, .int .i64 a2]] w fun e w' => e = .returned (.agg #[.int .i64 a2, .int .i64 a1]) ∧ Below w.heap.size w w' := by
  go_enter Try.func14, Try.ntmps14
  go_upto_region 1 with fail
  go_name_world W0 hW0e
  have ow1 : Own W0 w.heap.size 23 #[.int .i64 a1, .int .i64 a2] := hW0e ▸ (by repeat' (first | (with_reducible assumption) | (with_reducible refine Own.drawnN ?_ _) | (with_reducible refine Own.drawn ?_) | (with_reducible refine Own.made_at ?_; first | rfl | (simp; done) | omega | (simp; omega)) | (with_reducible refine Own.more ?_ _) | (with_reducible refine Own.apart ?_ ?_ _ _; rotate_left; first | omega | (simp; done) | (simp; omega)) | (refine Own.put ?_ _ _)))
  have ow2 : Own W0 (w.heap.size + 1) 23 #[.int .i64 0, .int .i64 0] := hW0e ▸ (by repeat' (first | (with_reducible assumption) | (with_reducible refine Own.drawnN ?_ _) | (with_reducible refine Own.drawn ?_) | (with_reducible refine Own.made_at ?_; first | rfl | (simp; done) | omega | (simp; omega)) | (with_reducible refine Own.more ?_ _) | (with_reducible refine Own.apart ?_ ?_ _ _; rotate_left; first | omega | (simp; done) | (simp; omega)) | (refine Own.put ?_ _ _)))
  have hW0 : Below w.heap.size w W0 := hW0e ▸ (by repeat' (first | (with_reducible exact Below.refl _ _) | (with_reducible assumption) | (with_reducible refine below_drewN ?_ _) | (with_reducible refine Below.drew ?_) | (with_reducible refine Below.alloc ?_ ?_ _) | (with_reducible refine Below.setCell ?_ ?_ _) | (with_reducible refine then_ ?_ (by with_reducible assumption) ?_) | (with_reducible exact Nat.le_refl _) | (with_reducible exact Nat.le_succ _) | (with_reducible exact Nat.le_succ_of_le (by with_reducible assumption)) | omega | (simp; done) | (simp; omega) | (exact Nat.le_succ _) | (exact Nat.le_succ_of_le (by with_reducible assumption))))
  clear hW0e
  have z0 := ow2.in_
  go_upto_region 1 with fail
  refine region_memo_f (B := w.heap.size) (L := .val (.pointer (some ⟨w.heap.size, 1, none⟩)) :: .val (.int .i64 a2) :: .val (.pointer (some ⟨w.heap.size, 0, none⟩)) :: .val (.int .i64 a1) :: .val (.agg #[.int .i64 a2, .int .i64 a1]) :: .sto (w.heap.size + 1) 23 #[.int .i64 a2, .int .i64 a1] :: []) (by kernel_rfl) (hW0.size) (Olds.v (Olds.v (Olds.v (Olds.v (Olds.v (Olds.s (by omega) ow2.in_ (by repeat' (first | exact trivial | refine Off.v ?_ | refine Off.k ?_ | refine Off.b ?_ | refine Off.n ?_ | refine Off.p ?_ | refine Off.s ?_ ?_ | omega)) (trivial)))))))
    ⟨fun a w R => fa_P_1 (R.slot 1 rfl), fun a w R => ld_int (R.val 0) (R.keep ow1 (by repeat' (first | exact trivial | refine Off.v ?_ | refine Off.k ?_ | refine Off.b ?_ | refine Off.n ?_ | refine Off.p ?_ | refine Off.s ?_ ?_ | omega))) rfl, fun a w R => fa_P_0 (R.slot 1 rfl), fun a w R => ld_int (R.val 2) (R.keep ow1 (by repeat' (first | exact trivial | refine Off.v ?_ | refine Off.k ?_ | refine Off.b ?_ | refine Off.n ?_ | refine Off.p ?_ | refine Off.s ?_ ?_ | omega))) rfl, fun a w R => bdP_tt (R.val 1) (R.val 3), fun a w R => so_P (R.slot 2 rfl) (R.own rfl ow2) rfl (R.val 4), trivial⟩ (fun act_ W1 I => ?_)
  rw [I.act [(3, .pointer (some ⟨w.heap.size, 1, none⟩)), (4, .int .i64 a2), (5, .pointer (some ⟨w.heap.size, 0, none⟩)), (6, .int .i64 a1), (7, .agg #[.int .i64 a2, .int .i64 a1])]
    ⟨I.val 0, I.val 1, I.val 2, I.val 3, I.val 4, trivial⟩ rfl]
  have sW1 : W0.heap.size ≤ W1.heap.size := I.below.size
  replace ow1 := I.keep ow1 (by repeat' (first | exact trivial | refine Off.v ?_ | refine Off.k ?_ | refine Off.b ?_ | refine Off.n ?_ | refine Off.p ?_ | refine Off.s ?_ ?_ | omega))
  replace ow2 := I.sto 5 rfl rfl
  have hW1 : Below w.heap.size w W1 := hW0.trans I.below
  clear I
  simp only [List.foldl_cons, List.foldl_nil, List.setIfInBounds_toArray, List.set_cons_zero, List.set_cons_succ]
  obtain ⟨r2_, r2_1, r2_2⟩ := ow2.at_
  clear ow1 ow2
  go_wp2
  try simp only [setCell_drawn]
  refine bodyPost_ret (by first | (simp [results, Try.results14, go_sem, r2_]; done) | (simp [results, Try.results14, go_sem, r2_]; rfl)) rfl ⟨?_, hW1⟩
  rfl
set_option maxHeartbeats 16000000 in
set_option maxRecDepth 20000 in
theorem move_any {a1 a2 b1 b2 : Int} (ra : Rng a1 a2) (rb : Rng b1 b2) (w : World) : Calls Try.prog 17 #[.agg #[.int .i64 a1, .int .i64 a2], .agg #[.int .i64 b1, .int .i64 b2]] w fun e w' => e = .returned (.agg #[.int .i64 (a1 + b1), .int .i64 (a2 + b2)]) ∧ Below w.heap.size w w' := by
  obtain ⟨u1, u2, u3, u4⟩ := ra
  obtain ⟨u5, u6, u7, u8⟩ := rb
  go_enter Try.func17, Try.ntmps17
  go_upto_region 1 with fail
  go_name_world W0 hW0e
  have ow2 : Own W0 w.heap.size 23 #[.int .i64 a1, .int .i64 a2] := hW0e ▸ (by repeat' (first | (with_reducible assumption) | (with_reducible refine Own.drawnN ?_ _) | (with_reducible refine Own.drawn ?_) | (with_reducible refine Own.made_at ?_; first | rfl | (simp; done) | omega | (simp; omega)) | (with_reducible refine Own.more ?_ _) | (with_reducible refine Own.apart ?_ ?_ _ _; rotate_left; first | omega | (simp; done) | (simp; omega)) | (refine Own.put ?_ _ _)))
  have ow3 : Own W0 (w.heap.size + 1) 23 #[.int .i64 b1, .int .i64 b2] := hW0e ▸ (by repeat' (first | (with_reducible assumption) | (with_reducible refine Own.drawnN ?_ _) | (with_reducible refine Own.drawn ?_) | (with_reducible refine Own.made_at ?_; first | rfl | (simp; done) | omega | (simp; omega)) | (with_reducible refine Own.more ?_ _) | (with_reducible refine Own.apart ?_ ?_ _ _; rotate_left; first | omega | (simp; done) | (simp; omega)) | (refine Own.put ?_ _ _)))
  have ow4 : Own W0 (w.heap.size + 1 + 1) 23 #[.int .i64 0, .int .i64 0] := hW0e ▸ (by repeat' (first | (with_reducible assumption) | (with_reducible refine Own.drawnN ?_ _) | (with_reducible refine Own.drawn ?_) | (with_reducible refine Own.made_at ?_; first | rfl | (simp; done) | omega | (simp; omega)) | (with_reducible refine Own.more ?_ _) | (with_reducible refine Own.apart ?_ ?_ _ _; rotate_left; first | omega | (simp; done) | (simp; omega)) | (refine Own.put ?_ _ _)))
  have hW0 : Below w.heap.size w W0 := hW0e ▸ (by repeat' (first | (with_reducible exact Below.refl _ _) | (with_reducible assumption) | (with_reducible refine below_drewN ?_ _) | (with_reducible refine Below.drew ?_) | (with_reducible refine Below.alloc ?_ ?_ _) | (with_reducible refine Below.setCell ?_ ?_ _) | (with_reducible refine then_ ?_ (by with_reducible assumption) ?_) | (with_reducible exact Nat.le_refl _) | (with_reducible exact Nat.le_succ _) | (with_reducible exact Nat.le_succ_of_le (by with_reducible assumption)) | omega | (simp; done) | (simp; omega) | (exact Nat.le_succ _) | (exact Nat.le_succ_of_le (by with_reducible assumption))))
  clear hW0e
  have z0 := ow4.in_
  go_upto_region 1 with fail
  refine region_memo_f (B := w.heap.size) (L := .val (.pointer (some ⟨w.heap.size, 0, none⟩)) :: .val (.int .i64 a1) :: .val (.pointer (some ⟨(w.heap.size + 1), 0, none⟩)) :: .val (.int .i64 b1) :: .val (.int .i64 (a1 + b1)) :: .val (.pointer (some ⟨w.heap.size, 1, none⟩)) :: .val (.int .i64 a2) :: .val (.pointer (some ⟨(w.heap.size + 1), 1, none⟩)) :: .val (.int .i64 b2) :: .val (.int .i64 (a2 + b2)) :: .val (.agg #[.int .i64 (a1 + b1), .int .i64 (a2 + b2)]) :: .sto (w.heap.size + 1 + 1) 23 #[.int .i64 (a1 + b1), .int .i64 (a2 + b2)] :: []) (by kernel_rfl) (hW0.size) (Olds.v (Olds.v (Olds.v (Olds.v (Olds.v (Olds.v (Olds.v (Olds.v (Olds.v (Olds.v (Olds.v (Olds.s (by omega) ow4.in_ (by repeat' (first | exact trivial | refine Off.v ?_ | refine Off.k ?_ | refine Off.b ?_ | refine Off.n ?_ | refine Off.p ?_ | refine Off.s ?_ ?_ | omega)) (trivial)))))))))))))
    ⟨fun a w R => fa_P_0 (R.slot 2 rfl), fun a w R => ld_int (R.val 0) (R.keep ow2 (by repeat' (first | exact trivial | refine Off.v ?_ | refine Off.k ?_ | refine Off.b ?_ | refine Off.n ?_ | refine Off.p ?_ | refine Off.s ?_ ?_ | omega))) rfl, fun a w R => fa_P_0 (R.slot 3 rfl), fun a w R => ld_int (R.val 2) (R.keep ow3 (by repeat' (first | exact trivial | refine Off.v ?_ | refine Off.k ?_ | refine Off.b ?_ | refine Off.n ?_ | refine Off.p ?_ | refine Off.s ?_ ?_ | omega))) rfl, fun a w R => n_add_tt (R.val 1) (R.val 3) (by first | rfl | exact tn_wrap _ _ | exact tn_negw _ | (simp only [IntKind.wrap_i64]; omega)), fun a w R => fa_P_1 (R.slot 2 rfl), fun a w R => ld_int (R.val 5) (R.keep ow2 (by repeat' (first | exact trivial | refine Off.v ?_ | refine Off.k ?_ | refine Off.b ?_ | refine Off.n ?_ | refine Off.p ?_ | refine Off.s ?_ ?_ | omega))) rfl, fun a w R => fa_P_1 (R.slot 3 rfl), fun a w R => ld_int (R.val 7) (R.keep ow3 (by repeat' (first | exact trivial | refine Off.v ?_ | refine Off.k ?_ | refine Off.b ?_ | refine Off.n ?_ | refine Off.p ?_ | refine Off.s ?_ ?_ | omega))) rfl, fun a w R => n_add_tt (R.val 6) (R.val 8) (by first | rfl | exact tn_wrap _ _ | exact tn_negw _ | (simp only [IntKind.wrap_i64]; omega)), fun a w R => bdP_tt (R.val 4) (R.val 9), fun a w R => so_P (R.slot 4 rfl) (R.own rfl ow4) rfl (R.val 10), trivial⟩ (fun act_ W1 I => ?_)
  rw [I.act [(5, .pointer (some ⟨w.heap.size, 0, none⟩)), (6, .int .i64 a1), (7, .pointer (some ⟨(w.heap.size + 1), 0, none⟩)), (8, .int .i64 b1), (9, .int .i64 (a1 + b1)), (10, .pointer (some ⟨w.heap.size, 1, none⟩)), (11, .int .i64 a2), (12, .pointer (some ⟨(w.heap.size + 1), 1, none⟩)), (13, .int .i64 b2), (14, .int .i64 (a2 + b2)), (15, .agg #[.int .i64 (a1 + b1), .int .i64 (a2 + b2)])]
    ⟨I.val 0, I.val 1, I.val 2, I.val 3, I.val 4, I.val 5, I.val 6, I.val 7, I.val 8, I.val 9, I.val 10, trivial⟩ rfl]
  have sW1 : W0.heap.size ≤ W1.heap.size := I.below.size
  replace ow2 := I.keep ow2 (by repeat' (first | exact trivial | refine Off.v ?_ | refine Off.k ?_ | refine Off.b ?_ | refine Off.n ?_ | refine Off.p ?_ | refine Off.s ?_ ?_ | omega))
  replace ow3 := I.keep ow3 (by repeat' (first | exact trivial | refine Off.v ?_ | refine Off.k ?_ | refine Off.b ?_ | refine Off.n ?_ | refine Off.p ?_ | refine Off.s ?_ ?_ | omega))
  replace ow4 := I.sto 11 rfl rfl
  have hW1 : Below w.heap.size w W1 := hW0.trans I.below
  clear I
  simp only [List.foldl_cons, List.foldl_nil, List.setIfInBounds_toArray, List.set_cons_zero, List.set_cons_succ]
  obtain ⟨r4_, r4_1, r4_2⟩ := ow4.at_
  clear ow2 ow3 ow4
  go_wp2
  try simp only [setCell_drawn]
  refine bodyPost_ret (by first | (simp [results, Try.results17, go_sem, r4_]; done) | (simp [results, Try.results17, go_sem, r4_]; rfl)) rfl ⟨?_, hW1⟩
  rfl
end Go.Proofs.Ytlifghecgpibfaa
