/- merged: The document's examples, which the laws' awake asks. No condition but those that each theorem names. The contract of the awake of stage 5's laws; written by auto_law5.py. No condition. -/
import Derived.Test.YtlifghecgpibfaaGeoC
import Derived.Test.YtlifghecgpibfaaRatD
section
namespace Go.Proofs.Ytlifghecgpibfaa
open Go.ChangeShapes Go.WideShapes Go.ChangeAt Go.RowKit
set_option linter.unusedVariables false
set_option linter.unusedSimpArgs false

theorem Turn_is {a1 a2 b1 b2 c1 c2 t : Int} (hin : in3 a1 a2 b1 b2 c1 c2 = true) (h : tn a1 a2 b1 b2 c1 c2 = t) (w : World) : Calls Try.prog 13 #[.agg #[.int .i64 a1, .int .i64 a2], .agg #[.int .i64 b1, .int .i64 b2], .agg #[.int .i64 c1, .int .i64 c2]] w fun e w' => e = .returned (.int .i64 t) ∧ Below w.heap.size w w' := h ▸ Turn_in hin w
/-- the document's examples -/
theorem ex_turn (w : World) : Calls Try.prog 13 #[.agg #[.int .i64 0, .int .i64 0], .agg #[.int .i64 4, .int .i64 0], .agg #[.int .i64 1, .int .i64 3]] w fun e w' => e = .returned (.int .i64 1) ∧ Below w.heap.size w w' := Turn_is (by decide) (by decide) w
theorem ex_on (w : World) : Calls Try.prog 16 #[.agg #[.int .i64 2, .int .i64 1], .agg #[.int .i64 0, .int .i64 0], .agg #[.int .i64 4, .int .i64 2]] w fun e w' => e = .returned (.bool true) ∧ Below w.heap.size w w' := On_is (by decide) w
theorem ex_at (w : World) : Calls Try.prog 19 #[.agg #[.int .i64 0, .int .i64 0], .agg #[.int .i64 4, .int .i64 2], .agg #[.int .u64 (L0 1), .int .u64 (L1 1), .int .u64 (L2 1), .int .u64 (L3 1), .int .u64 (L0 1), .int .u64 (L1 1), .int .u64 (L2 1), .int .u64 (L3 1)]] w fun e w' => e = .returned (.tuple #[.agg #[.int .u64 (L0 1), .int .u64 (L1 1), .int .u64 (L2 1), .int .u64 (L3 1), .int .u64 (L0 2), .int .u64 (L1 2), .int .u64 (L2 2), .int .u64 (L3 2)], .int .i64 0]) ∧ Below w.heap.size w w' := by
  have hl : Rng 0 0 := ⟨by decide, by decide, by decide, by decide⟩
  have hh : Rng 4 2 := ⟨by decide, by decide, by decide, by decide⟩
  obtain ⟨p2, q2, p3, q3, p, q, h⟩ := at_parts (l1 := 0) (l2 := 0) (h1 := 4) (h2 := 2) (X := 1) hl hh ⟨by decide, by decide⟩ (by decide)
  have e := h.eq
  obtain ⟨rfl, rfl⟩ := rgt_uniq h.rgt (show Rgt 1 2 from ⟨by decide, by decide⟩) (by omega)
  have := at_fwd hl hh ⟨by decide, by decide⟩ (by decide) h w
  rw [cmV_whole, cmV_whole] at this
  exact this
end Go.Proofs.Ytlifghecgpibfaa
end
section
namespace Go.Proofs.Ytlifghecgpibfaa
open Go.ChangeShapes Go.WideShapes Go.ChangeAt Go.RowKit
set_option linter.unusedVariables false
set_option linter.unusedSimpArgs false

set_option maxHeartbeats 16000000 in
set_option maxRecDepth 20000 in
theorem awake_any (w : World) : Calls Try.prog 12 #[] w fun e w' => e = .returned (.bool true) ∧ Below w.heap.size w w' := by
  have E1 : Hid (decide ((1 : Int) = 1) = true) := Lib.hid rfl
  have E2 : Hid (decide ((2 : Int) = 2) = true) := Lib.hid rfl
  go_enter Try.func12, Try.ntmps12
  go_upto_region 1 with fail
  obtain ⟨W0, hW0e⟩ : ∃ W0, W0 = w := ⟨w, rfl⟩
  have hW0 : Below w.heap.size w W0 := by rw [hW0e]; exact Below.refl _ _
  first | rw [← hW0e] | skip
  go_upto_region 1 with fail
  refine region_memo_f (B := W0.heap.size) (L := .val (.agg #[.int .i64 0, .int .i64 0]) :: .val (.agg #[.int .i64 4, .int .i64 2]) :: .val (.agg #[.int .u64 (L0 1), .int .u64 (L1 1), .int .u64 (L2 1), .int .u64 (L3 1), .int .u64 (L0 1), .int .u64 (L1 1), .int .u64 (L2 1), .int .u64 (L3 1)]) :: .val (.tuple #[.agg #[.int .u64 (L0 1), .int .u64 (L1 1), .int .u64 (L2 1), .int .u64 (L3 1), .int .u64 (L0 2), .int .u64 (L1 2), .int .u64 (L2 2), .int .u64 (L3 2)], .int .i64 0]) :: .val (.tuple #[.agg #[.int .u64 (L0 1), .int .u64 (L1 1), .int .u64 (L2 1), .int .u64 (L3 1), .int .u64 (L0 2), .int .u64 (L1 2), .int .u64 (L2 2), .int .u64 (L3 2)], .int .i64 0]) :: .val (.agg #[.int .u64 (L0 1), .int .u64 (L1 1), .int .u64 (L2 1), .int .u64 (L3 1), .int .u64 (L0 2), .int .u64 (L1 2), .int .u64 (L2 2), .int .u64 (L3 2)]) :: .val (.int .i64 0) :: .blk 36 8 :: .put 1 36 #[.int .u64 (L0 1), .int .u64 (L1 1), .int .u64 (L2 1), .int .u64 (L3 1), .int .u64 (L0 2), .int .u64 (L1 2), .int .u64 (L2 2), .int .u64 (L3 2)] :: .val (.int .i64 0) :: []) (by kernel_rfl) (Nat.le_refl _) ((by exact trivial))
    ⟨fun a w R => bd0_P, fun a w R => bdP_kk , fun a w R => cl_k (enter_at Try.func20)  (Whole_any 1 (by decide) (by decide) _), fun a w R => cl_ttt (enter_at Try.func19) (R.val 0) (R.val 1) (R.val 2) (ex_at _), fun a w R => mv (R.val 3), fun a w R => ex0 (R.val 4), fun a w R => ex1 (R.val 4), fun a w R => al_R, fun a w R => sb_R (R.dep 7) (R.val 5), fun a w R => asg (R.val 6), trivial⟩ (fun act_ W1 I => ?_)
  obtain ⟨gb1, ew1, lw1, ow1⟩ := I.put 8 rfl rfl
  rw [I.act [(4, .agg #[.int .i64 0, .int .i64 0]), (5, .agg #[.int .i64 4, .int .i64 2]), (6, .agg #[.int .u64 (L0 1), .int .u64 (L1 1), .int .u64 (L2 1), .int .u64 (L3 1), .int .u64 (L0 1), .int .u64 (L1 1), .int .u64 (L2 1), .int .u64 (L3 1)]), (7, .tuple #[.agg #[.int .u64 (L0 1), .int .u64 (L1 1), .int .u64 (L2 1), .int .u64 (L3 1), .int .u64 (L0 2), .int .u64 (L1 2), .int .u64 (L2 2), .int .u64 (L3 2)], .int .i64 0]), (3, .tuple #[.agg #[.int .u64 (L0 1), .int .u64 (L1 1), .int .u64 (L2 1), .int .u64 (L3 1), .int .u64 (L0 2), .int .u64 (L1 2), .int .u64 (L2 2), .int .u64 (L3 2)], .int .i64 0]), (8, .agg #[.int .u64 (L0 1), .int .u64 (L1 1), .int .u64 (L2 1), .int .u64 (L3 1), .int .u64 (L0 2), .int .u64 (L1 2), .int .u64 (L2 2), .int .u64 (L3 2)]), (9, .int .i64 0), (1, .pointer (some ⟨gb1, 0, none⟩)), (2, .int .i64 0)]
    ⟨I.val 0, I.val 1, I.val 2, I.val 3, I.val 4, I.val 5, I.val 6, ew1, I.val 9, trivial⟩ rfl]
  change W0.heap.size ≤ gb1 at lw1
  have sW1 : W0.heap.size ≤ W1.heap.size := I.below.size
  have hW1 : Below w.heap.size w W1 := then_ hW0 I.below hW0.size
  clear ew1
  clear I
  simp only [List.foldl_cons, List.foldl_nil, List.setIfInBounds_toArray, List.set_cons_zero, List.set_cons_succ]
  go_upto_region 2 with fail
  refine region_memo (B := W1.heap.size) (L := .val (.agg #[.int .i64 0, .int .i64 0]) :: .val (.agg #[.int .i64 4, .int .i64 0]) :: .val (.agg #[.int .i64 1, .int .i64 3]) :: .val (.int .i64 1) :: .val (.bool true) :: .val (.bool true) :: .val (.agg #[.int .i64 2, .int .i64 1]) :: .val (.agg #[.int .i64 0, .int .i64 0]) :: .val (.agg #[.int .i64 4, .int .i64 2]) :: .val (.bool true) :: .val (.bool true) :: .val (.bool true) :: .val (.int .i64 0) :: .val (.bool true) :: .val (.bool true) :: .val (.bool true) :: .val (.pointer (some ⟨gb1, 0, none⟩)) :: .val (.agg #[.int .u64 (L0 1), .int .u64 (L1 1), .int .u64 (L2 1), .int .u64 (L3 1)]) :: .val (.agg #[.int .u64 (L0 1), .int .u64 (L1 1), .int .u64 (L2 1), .int .u64 (L3 1)]) :: .val (.bool true) :: .val (.bool true) :: .val (.bool true) :: .val (.pointer (some ⟨gb1, 4, none⟩)) :: .val (.agg #[.int .u64 (L0 2), .int .u64 (L1 2), .int .u64 (L2 2), .int .u64 (L3 2)]) :: .val (.agg #[.int .u64 (L0 2), .int .u64 (L1 2), .int .u64 (L2 2), .int .u64 (L3 2)]) :: .val (.bool true) :: .val (.bool true) :: .val (.bool true) :: []) (by kernel_rfl) (by kernel_rfl) (Nat.le_refl _) ((by exact trivial))
    ⟨fun a w R => bd0_P, fun a w R => bdP_k , fun a w R => bdP_kk , fun a w R => cl_ttt (enter_at Try.func13) (R.val 0) (R.val 1) (R.val 2) (ex_turn _), fun a w R => c_eql_tk (R.val 3) (Try.underlying3) (by decide), fun a w R => mv (R.val 4), fun a w R => bdP_kk , fun a w R => bd0_P, fun a w R => bdP_kk , fun a w R => cl_ttt (enter_at Try.func16) (R.val 6) (R.val 7) (R.val 8) (ex_on _), fun a w R => pickt (R.val 5) (R.val 9), fun a w R => mv (R.val 10), fun a w R => mv (R.slot 2 rfl), fun a w R => c_eql_tk (R.val 12) (Try.underlying37) (by decide), fun a w R => pickt (R.val 11) (R.val 13), fun a w R => mv (R.val 14), fun a w R => fa_R_0 (R.slot 1 rfl), fun a w R => ld_W (R.val 16) (R.keep ow1.drawn trivial) rfl rfl rfl rfl, fun a w R => cl_k (enter_at Try.func29)  (of_b 1 (by decide) (by decide) _), fun a w R => (e_eql_W (R.val 17) (R.val 18) (fun w => (eq_fit (a := 1) (b := 1) ⟨by decide, by decide⟩ ⟨by decide, by decide⟩ w).trans (by rw [E1.out]))), fun a w R => pickt (R.val 15) (R.val 19), fun a w R => mv (R.val 20), fun a w R => fa_R_1 (R.slot 1 rfl), fun a w R => ld_W (R.val 22) (R.keep ow1.drawn trivial) rfl rfl rfl rfl, fun a w R => cl_k (enter_at Try.func29)  (of_b 2 (by decide) (by decide) _), fun a w R => (e_eql_W (R.val 23) (R.val 24) (fun w => (eq_fit (a := 2) (b := 2) ⟨by decide, by decide⟩ ⟨by decide, by decide⟩ w).trans (by rw [E2.out]))), fun a w R => pickt (R.val 21) (R.val 25), fun a w R => asg (R.val 26), trivial⟩ (fun act_ W2 I => ?_)
  rw [I.act [(10, .agg #[.int .i64 0, .int .i64 0]), (11, .agg #[.int .i64 4, .int .i64 0]), (12, .agg #[.int .i64 1, .int .i64 3]), (13, .int .i64 1), (14, .bool true), (15, .bool true), (16, .agg #[.int .i64 2, .int .i64 1]), (17, .agg #[.int .i64 0, .int .i64 0]), (18, .agg #[.int .i64 4, .int .i64 2]), (19, .bool true), (20, .bool true), (21, .bool true), (22, .int .i64 0), (23, .bool true), (24, .bool true), (25, .bool true), (26, .pointer (some ⟨gb1, 0, none⟩)), (27, .agg #[.int .u64 (L0 1), .int .u64 (L1 1), .int .u64 (L2 1), .int .u64 (L3 1)]), (28, .agg #[.int .u64 (L0 1), .int .u64 (L1 1), .int .u64 (L2 1), .int .u64 (L3 1)]), (29, .bool true), (30, .bool true), (31, .bool true), (32, .pointer (some ⟨gb1, 4, none⟩)), (33, .agg #[.int .u64 (L0 2), .int .u64 (L1 2), .int .u64 (L2 2), .int .u64 (L3 2)]), (34, .agg #[.int .u64 (L0 2), .int .u64 (L1 2), .int .u64 (L2 2), .int .u64 (L3 2)]), (35, .bool true), (36, .bool true), (0, .bool true)]
    ⟨I.val 0, I.val 1, I.val 2, I.val 3, I.val 4, I.val 5, I.val 6, I.val 7, I.val 8, I.val 9, I.val 10, I.val 11, I.val 12, I.val 13, I.val 14, I.val 15, I.val 16, I.val 17, I.val 18, I.val 19, I.val 20, I.val 21, I.val 22, I.val 23, I.val 24, I.val 25, I.val 26, I.val 27, trivial⟩ rfl]
  have sW2 : W1.heap.size ≤ W2.heap.size := I.below.size
  replace ow1 := I.keep ow1.drawn trivial
  have hW2 : Below w.heap.size w W2 := then_ hW1.drew I.below hW1.size
  clear I
  simp only [List.foldl_cons, List.foldl_nil, List.setIfInBounds_toArray, List.set_cons_zero, List.set_cons_succ]
  clear ow1
  go_wp2
  try simp only [setCell_drawn]
  refine bodyPost_ret (by first | (simp [results, Try.results12, go_sem]; done) | (simp [results, Try.results12, go_sem]; rfl)) rfl ⟨?_, hW2⟩
  rfl
end Go.Proofs.Ytlifghecgpibfaa
end
