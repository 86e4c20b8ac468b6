
/- The contract of At of geom; written by auto_geom3.py. Conditions: points in range. -/
import Derived.Test.YtlifghecgpibfaaGeoC
import Derived.Test.YtlifghecgpibfaaRatC
namespace Go.Proofs.Ytlifghecgpibfaa
open Go.ChangeShapes Go.WideShapes Go.ChangeAt Go.RowKit
set_option linter.unusedVariables false
set_option linter.unusedSimpArgs false

def atE (p q c d : Int) : Value := if decide (c < 0) then .tuple #[.agg #[.int .u64 (L0 0), .int .u64 (L1 0), .int .u64 (L2 0), .int .u64 (L3 0), .int .u64 (L0 0), .int .u64 (L1 0), .int .u64 (L2 0), .int .u64 (L3 0)], .int .i64 1] else if decide (0 < d) then .tuple #[.agg #[.int .u64 (L0 0), .int .u64 (L1 0), .int .u64 (L2 0), .int .u64 (L3 0), .int .u64 (L0 0), .int .u64 (L1 0), .int .u64 (L2 0), .int .u64 (L3 0)], .int .i64 1] else .tuple #[.agg #[.int .u64 (L0 p), .int .u64 (L1 p), .int .u64 (L2 p), .int .u64 (L3 p), .int .u64 (L0 q), .int .u64 (L1 q), .int .u64 (L2 q), .int .u64 (L3 q)], .int .i64 0]
set_option maxHeartbeats 16000000 in
set_option maxRecDepth 20000 in
theorem At_fwd {l1 l2 h1 h2 X p1 q1 p2 q2 p3 q3 p4 q4 : Int} (hl : Rng l1 l2) (hh : Rng h1 h2) (hX : -268435456 ≤ X ∧ X ≤ 268435456) (hlt : l1 < h1) (f1 : Fit p1 ∧ Fit q1) (f2 : Fit p2 ∧ Fit q2) (f3 : Fit p3 ∧ Fit q3)
    (S10 : ∀ w, Calls Try.prog 37 #[.agg #[.int .u64 (L0 X), .int .u64 (L1 X), .int .u64 (L2 X), .int .u64 (L3 X), .int .u64 (L0 1), .int .u64 (L1 1), .int .u64 (L2 1), .int .u64 (L3 1)], .agg #[.int .u64 (L0 l1), .int .u64 (L1 l1), .int .u64 (L2 l1), .int .u64 (L3 l1), .int .u64 (L0 1), .int .u64 (L1 1), .int .u64 (L2 1), .int .u64 (L3 1)]] w fun e w' => e = .returned (.tuple #[.agg #[.int .u64 (L0 p1), .int .u64 (L1 p1), .int .u64 (L2 p1), .int .u64 (L3 p1), .int .u64 (L0 q1), .int .u64 (L1 q1), .int .u64 (L2 q1), .int .u64 (L3 q1)], .int .i64 0]) ∧ Below w.heap.size w w')
    (S20 : ∀ w, Calls Try.prog 38 #[.agg #[.int .u64 (L0 (h2 - l2)), .int .u64 (L1 (h2 - l2)), .int .u64 (L2 (h2 - l2)), .int .u64 (L3 (h2 - l2))], .agg #[.int .u64 (L0 (h1 - l1)), .int .u64 (L1 (h1 - l1)), .int .u64 (L2 (h1 - l1)), .int .u64 (L3 (h1 - l1))]] w fun e w' => e = .returned (.tuple #[.agg #[.int .u64 (L0 p2), .int .u64 (L1 p2), .int .u64 (L2 p2), .int .u64 (L3 p2), .int .u64 (L0 q2), .int .u64 (L1 q2), .int .u64 (L2 q2), .int .u64 (L3 q2)], .int .i64 0]) ∧ Below w.heap.size w w')
    (S30 : ∀ w, Calls Try.prog 39 #[.agg #[.int .u64 (L0 p1), .int .u64 (L1 p1), .int .u64 (L2 p1), .int .u64 (L3 p1), .int .u64 (L0 q1), .int .u64 (L1 q1), .int .u64 (L2 q1), .int .u64 (L3 q1)], .agg #[.int .u64 (L0 p2), .int .u64 (L1 p2), .int .u64 (L2 p2), .int .u64 (L3 p2), .int .u64 (L0 q2), .int .u64 (L1 q2), .int .u64 (L2 q2), .int .u64 (L3 q2)]] w fun e w' => e = .returned (.tuple #[.agg #[.int .u64 (L0 p3), .int .u64 (L1 p3), .int .u64 (L2 p3), .int .u64 (L3 p3), .int .u64 (L0 q3), .int .u64 (L1 q3), .int .u64 (L2 q3), .int .u64 (L3 q3)], .int .i64 0]) ∧ Below w.heap.size w w')
    (S40 : ∀ w, Calls Try.prog 40 #[.agg #[.int .u64 (L0 p3), .int .u64 (L1 p3), .int .u64 (L2 p3), .int .u64 (L3 p3), .int .u64 (L0 q3), .int .u64 (L1 q3), .int .u64 (L2 q3), .int .u64 (L3 q3)], .agg #[.int .u64 (L0 l2), .int .u64 (L1 l2), .int .u64 (L2 l2), .int .u64 (L3 l2), .int .u64 (L0 1), .int .u64 (L1 1), .int .u64 (L2 1), .int .u64 (L3 1)]] w fun e w' => e = .returned (.tuple #[.agg #[.int .u64 (L0 p4), .int .u64 (L1 p4), .int .u64 (L2 p4), .int .u64 (L3 p4), .int .u64 (L0 q4), .int .u64 (L1 q4), .int .u64 (L2 q4), .int .u64 (L3 q4)], .int .i64 0]) ∧ Below w.heap.size w w') (w : World) :
    Calls Try.prog 19 #[.agg #[.int .i64 l1, .int .i64 l2], .agg #[.int .i64 h1, .int .i64 h2], .agg #[.int .u64 (L0 X), .int .u64 (L1 X), .int .u64 (L2 X), .int .u64 (L3 X), .int .u64 (L0 1), .int .u64 (L1 1), .int .u64 (L2 1), .int .u64 (L3 1)]] w fun e w' => e = .returned (atE p4 q4 (cmV X 1 l1 1) (cmV X 1 h1 1)) ∧ Below w.heap.size w w' := by
  have HI := Lib.hid (in2_iff.2 ⟨hl, hh⟩)
  obtain ⟨q_1, q_2, q_3, q_4⟩ := hl
  obtain ⟨q_5, q_6, q_7, q_8⟩ := hh
  obtain ⟨q_9, q_10⟩ := hX
  have HL : Hid (lsB h1 h2 l1 l2 = false) := Lib.hid (by unfold lsB; simp; omega)
  have HE : Hid ((l1 == h1) = false) := Lib.hid (by simp; omega)
  have HR := Lib.hid (decide_eq_true (whole_rgt X))
  have S1 := Lib.hid S10
  have S2 := Lib.hid S20
  have S3 := Lib.hid S30
  have S4 := Lib.hid S40
  clear S10 S20 S30 S40
  go_enter Try.func19, Try.ntmps19
  go_upto_region 1 with fail
  go_name_world W0 hW0e
  have ow3 : Own W0 w.heap.size 23 #[.int .i64 l1, .int .i64 l2] := hW0e ▸ (by repeat' (first | (with_reducible assumption) | (with_reducible refine Own.drawnN ?_ _) | (with_reducible refine Own.drawn ?_) | (with_reducible refine Own.made_at ?_; first | rfl | (simp; done) | omega | (simp; omega)) | (with_reducible refine Own.more ?_ _) | (with_reducible refine Own.apart ?_ ?_ _ _; rotate_left; first | omega | (simp; done) | (simp; omega)) | (refine Own.put ?_ _ _)))
  have ow4 : Own W0 (w.heap.size + 1) 23 #[.int .i64 h1, .int .i64 h2] := hW0e ▸ (by repeat' (first | (with_reducible assumption) | (with_reducible refine Own.drawnN ?_ _) | (with_reducible refine Own.drawn ?_) | (with_reducible refine Own.made_at ?_; first | rfl | (simp; done) | omega | (simp; omega)) | (with_reducible refine Own.more ?_ _) | (with_reducible refine Own.apart ?_ ?_ _ _; rotate_left; first | omega | (simp; done) | (simp; omega)) | (refine Own.put ?_ _ _)))
  have ow5 : Own W0 (w.heap.size + 1 + 1) 36 #[.int .u64 (L0 X), .int .u64 (L1 X), .int .u64 (L2 X), .int .u64 (L3 X), .int .u64 (L0 1), .int .u64 (L1 1), .int .u64 (L2 1), .int .u64 (L3 1)] := hW0e ▸ (by repeat' (first | (with_reducible assumption) | (with_reducible refine Own.drawnN ?_ _) | (with_reducible refine Own.drawn ?_) | (with_reducible refine Own.made_at ?_; first | rfl | (simp; done) | omega | (simp; omega)) | (with_reducible refine Own.more ?_ _) | (with_reducible refine Own.apart ?_ ?_ _ _; rotate_left; first | omega | (simp; done) | (simp; omega)) | (refine Own.put ?_ _ _)))
  have ow6 : Own W0 (w.heap.size + 1 + 1 + 1) 36 #[.int .u64 0, .int .u64 0, .int .u64 0, .int .u64 0, .int .u64 0, .int .u64 0, .int .u64 0, .int .u64 0] := hW0e ▸ (by repeat' (first | (with_reducible assumption) | (with_reducible refine Own.drawnN ?_ _) | (with_reducible refine Own.drawn ?_) | (with_reducible refine Own.made_at ?_; first | rfl | (simp; done) | omega | (simp; omega)) | (with_reducible refine Own.more ?_ _) | (with_reducible refine Own.apart ?_ ?_ _ _; rotate_left; first | omega | (simp; done) | (simp; omega)) | (refine Own.put ?_ _ _)))
  have hW0 : Below w.heap.size w W0 := hW0e ▸ (by repeat' (first | (with_reducible exact Below.refl _ _) | (with_reducible assumption) | (with_reducible refine below_drewN ?_ _) | (with_reducible refine Below.drew ?_) | (with_reducible refine Below.alloc ?_ ?_ _) | (with_reducible refine Below.setCell ?_ ?_ _) | (with_reducible refine then_ ?_ (by with_reducible assumption) ?_) | (with_reducible exact Nat.le_refl _) | (with_reducible exact Nat.le_succ _) | (with_reducible exact Nat.le_succ_of_le (by with_reducible assumption)) | omega | (simp; done) | (simp; omega) | (exact Nat.le_succ _) | (exact Nat.le_succ_of_le (by with_reducible assumption))))
  clear hW0e
  have z0 := ow6.in_
  go_upto_region 1 with fail
  refine region_memo (B := W0.heap.size) (L := .val (.agg #[.int .i64 l1, .int .i64 l2]) :: .val (.agg #[.int .i64 h1, .int .i64 h2]) :: .blk 23 2 :: .blk 23 2 :: .put 8 23 #[.int .i64 l1, .int .i64 l2] :: .put 9 23 #[.int .i64 h1, .int .i64 h2] :: []) (by kernel_rfl) (by kernel_rfl) (Nat.le_refl _) ((by exact trivial))
    ⟨fun a w R => ld_P (R.slot 3 rfl) (R.keep ow3.drawn trivial) rfl rfl, fun a w R => ld_P (R.slot 4 rfl) (R.keep ow4.drawn trivial) rfl rfl, fun a w R => al_P, fun a w R => al_P, fun a w R => sb_P (R.dep 2) (R.val 0), fun a w R => sb_P (R.dep 3) (R.val 1), trivial⟩ (fun act_ W1 I => ?_)
  obtain ⟨gb8, ew8, lw8, ow8⟩ := I.put 4 rfl rfl
  obtain ⟨gb9, ew9, lw9, ow9⟩ := I.put 5 rfl rfl
  have nw8_9 := I.apart2 2 3 rfl rfl (by omega) rfl rfl rfl rfl ew8 ew9
  rw [I.act [(14, .agg #[.int .i64 l1, .int .i64 l2]), (15, .agg #[.int .i64 h1, .int .i64 h2]), (8, .pointer (some ⟨gb8, 0, none⟩)), (9, .pointer (some ⟨gb9, 0, none⟩))]
    ⟨I.val 0, I.val 1, ew8, ew9, trivial⟩ rfl]
  change W0.heap.size ≤ gb8 at lw8
  change W0.heap.size ≤ gb9 at lw9
  have sW1 : W0.heap.size ≤ W1.heap.size := I.below.size
  replace ow3 := I.keep ow3.drawn trivial
  replace ow4 := I.keep ow4.drawn trivial
  replace ow5 := I.keep ow5.drawn trivial
  replace ow6 := I.keep ow6.drawn trivial
  have hW1 : Below w.heap.size w W1 := then_ hW0.drew I.below hW0.size
  clear ew8 ew9
  clear I
  simp only [List.foldl_cons, List.foldl_nil, List.setIfInBounds_toArray, List.set_cons_zero, List.set_cons_succ]
  go_upto_region 2 with fail
  refine region_memo_f (B := W1.heap.size) (L := .val (.agg #[.int .i64 h1, .int .i64 h2]) :: .val (.agg #[.int .i64 l1, .int .i64 l2]) :: .val (.bool false) :: []) (by kernel_rfl) (Nat.le_refl _) ((by exact trivial))
    ⟨fun a w R => ld_P (R.slot 4 rfl) (R.keep ow4 trivial) rfl rfl, fun a w R => ld_P (R.slot 3 rfl) (R.keep ow3 trivial) rfl rfl, fun a w R => cl_tt (enter_at Try.func24) (R.val 0) (R.val 1) (Less_is HL.out _), trivial⟩ (fun act_ W2 I => ?_)
  rw [I.act [(16, .agg #[.int .i64 h1, .int .i64 h2]), (17, .agg #[.int .i64 l1, .int .i64 l2]), (18, .bool false)]
    ⟨I.val 0, I.val 1, I.val 2, trivial⟩ rfl]
  have sW2 : W1.heap.size ≤ W2.heap.size := I.below.size
  replace ow3 := I.keep ow3 trivial
  replace ow4 := I.keep ow4 trivial
  replace ow5 := I.keep ow5 trivial
  replace ow6 := I.keep ow6 trivial
  replace ow8 := I.keep ow8 trivial
  replace ow9 := I.keep ow9 trivial
  have hW2 : Below w.heap.size w W2 := then_ hW1 I.below hW1.size
  clear I
  simp only [List.foldl_cons, List.foldl_nil, List.setIfInBounds_toArray, List.set_cons_zero, List.set_cons_succ]
  go_upto_region 4 with fail
  refine region_memo_f (B := W2.heap.size) (L := .val (.agg #[.int .i64 l1, .int .i64 l2]) :: .val (.agg #[.int .i64 h1, .int .i64 h2]) :: .new 23 #[.int .i64 l1, .int .i64 l2, .int .i64 h1, .int .i64 h2] (some (2, 2)) :: .val (.bool true) :: .val (.bool false) :: .val (.bool false) :: []) (by kernel_rfl) (Nat.le_refl _) ((by exact trivial))
    ⟨fun a w R => ld_P (R.slot 3 rfl) (R.keep ow3 trivial) rfl rfl, fun a w R => ld_P (R.slot 4 rfl) (R.keep ow4 trivial) rfl rfl, fun a w R => bsP_2 (R.val 0) (R.val 1), fun a w R => cl_n (enter_at Try.func30) (R.dep 2) (fun g hg => allIn2 HI.out hg), fun a w R => notb (R.val 3), fun a w R => asg (R.val 4), trivial⟩ (fun act_ W3 I => ?_)
  obtain ⟨gb24, ew24, lw24, ow24⟩ := I.new 2 rfl rfl rfl
  rw [I.act [(22, .agg #[.int .i64 l1, .int .i64 l2]), (23, .agg #[.int .i64 h1, .int .i64 h2]), (24, .slice (some ⟨gb24, 0, none⟩) 2 2), (25, .bool true), (26, .bool false), (21, .bool false)]
    ⟨I.val 0, I.val 1, ew24, I.val 3, I.val 4, I.val 5, trivial⟩ rfl]
  change W2.heap.size ≤ gb24 at lw24
  have sW3 : W2.heap.size ≤ W3.heap.size := I.below.size
  replace ow3 := I.keep ow3 trivial
  replace ow4 := I.keep ow4 trivial
  replace ow5 := I.keep ow5 trivial
  replace ow6 := I.keep ow6 trivial
  replace ow8 := I.keep ow8 trivial
  replace ow9 := I.keep ow9 trivial
  have hW3 : Below w.heap.size w W3 := then_ hW2 I.below hW2.size
  clear ew24
  clear I
  simp only [List.foldl_cons, List.foldl_nil, List.setIfInBounds_toArray, List.set_cons_zero, List.set_cons_succ]
  go_upto_region 5 with fail
  refine region_memo_f (B := W3.heap.size) (L := .val (.pointer (some ⟨w.heap.size, 0, none⟩)) :: .val (.int .i64 l1) :: .val (.pointer (some ⟨(w.heap.size + 1), 0, none⟩)) :: .val (.int .i64 h1) :: .val (.bool false) :: .val (.bool false) :: []) (by kernel_rfl) (Nat.le_refl _) ((by exact trivial))
    ⟨fun a w R => fa_P_0 (R.slot 3 rfl), fun a w R => ld_int (R.val 0) (R.keep ow3 trivial) rfl, fun a w R => fa_P_0 (R.slot 4 rfl), fun a w R => ld_int (R.val 2) (R.keep ow4 trivial) rfl, fun a w R => c_eql_tt (R.val 1) (R.val 3) (Try.underlying3) HE.out, fun a w R => asg (R.val 4), trivial⟩ (fun act_ W4 I => ?_)
  rw [I.act [(27, .pointer (some ⟨w.heap.size, 0, none⟩)), (28, .int .i64 l1), (29, .pointer (some ⟨(w.heap.size + 1), 0, none⟩)), (30, .int .i64 h1), (31, .bool false), (21, .bool false)]
    ⟨I.val 0, I.val 1, I.val 2, I.val 3, I.val 4, I.val 5, trivial⟩ rfl]
  have sW4 : W3.heap.size ≤ W4.heap.size := I.below.size
  replace ow3 := I.keep ow3 trivial
  replace ow4 := I.keep ow4 trivial
  replace ow5 := I.keep ow5 trivial
  replace ow6 := I.keep ow6 trivial
  replace ow8 := I.keep ow8 trivial
  replace ow9 := I.keep ow9 trivial
  replace ow24 := I.keep ow24 trivial
  have hW4 : Below w.heap.size w W4 := then_ hW3 I.below hW3.size
  clear I
  simp only [List.foldl_cons, List.foldl_nil, List.setIfInBounds_toArray, List.set_cons_zero, List.set_cons_succ]
  go_upto_region 6 with fail
  refine region_memo_f (B := W4.heap.size) (L := .val (.agg #[.int .u64 (L0 X), .int .u64 (L1 X), .int .u64 (L2 X), .int .u64 (L3 X), .int .u64 (L0 1), .int .u64 (L1 1), .int .u64 (L2 1), .int .u64 (L3 1)]) :: .val (.bool true) :: .val (.bool false) :: .val (.bool false) :: []) (by kernel_rfl) (Nat.le_refl _) ((by exact trivial))
    ⟨fun a w R => ld_R (R.slot 5 rfl) (R.keep ow5 trivial) rfl rfl rfl rfl rfl rfl rfl rfl, fun a w R => cl_t (enter_at Try.func35) (R.val 0) (Right_is ⟨by omega, by omega⟩ ⟨by decide, by decide⟩ HR.out _), fun a w R => notb (R.val 1), fun a w R => asg (R.val 2), trivial⟩ (fun act_ W5 I => ?_)
  rw [I.act [(32, .agg #[.int .u64 (L0 X), .int .u64 (L1 X), .int .u64 (L2 X), .int .u64 (L3 X), .int .u64 (L0 1), .int .u64 (L1 1), .int .u64 (L2 1), .int .u64 (L3 1)]), (33, .bool true), (34, .bool false), (21, .bool false)]
    ⟨I.val 0, I.val 1, I.val 2, I.val 3, trivial⟩ rfl]
  have sW5 : W4.heap.size ≤ W5.heap.size := I.below.size
  replace ow3 := I.keep ow3 trivial
  replace ow4 := I.keep ow4 trivial
  replace ow5 := I.keep ow5 trivial
  replace ow6 := I.keep ow6 trivial
  replace ow8 := I.keep ow8 trivial
  replace ow9 := I.keep ow9 trivial
  replace ow24 := I.keep ow24 trivial
  have hW5 : Below w.heap.size w W5 := then_ hW4 I.below hW4.size
  clear I
  simp only [List.foldl_cons, List.foldl_nil, List.setIfInBounds_toArray, List.set_cons_zero, List.set_cons_succ]
  rcases Bool.eq_false_or_eq_true (decide ((cmV X 1 l1 1) < 0)) with t1 | t1
  · have t1_ := Lib.hid t1
    clear t1
    go_upto_region 8 with fail
    refine region_memo (B := W5.heap.size) (L := .val (.agg #[.int .u64 (L0 X), .int .u64 (L1 X), .int .u64 (L2 X), .int .u64 (L3 X), .int .u64 (L0 1), .int .u64 (L1 1), .int .u64 (L2 1), .int .u64 (L3 1)]) :: .val (.pointer (some ⟨gb8, 0, none⟩)) :: .val (.int .i64 l1) :: .val (.agg #[.int .u64 (L0 l1), .int .u64 (L1 l1), .int .u64 (L2 l1), .int .u64 (L3 l1), .int .u64 (L0 1), .int .u64 (L1 1), .int .u64 (L2 1), .int .u64 (L3 1)]) :: .val (.int .i64 (cmV X 1 l1 1)) :: .val (.bool true) :: .val (.bool true) :: []) (by kernel_rfl) (by kernel_rfl) (Nat.le_refl _) ((by exact trivial))
      ⟨fun a w R => ld_R (R.slot 5 rfl) (R.keep ow5.drawn trivial) rfl rfl rfl rfl rfl rfl rfl rfl, fun a w R => fa_P_0 (R.slot 8 rfl), fun a w R => ld_int (R.val 1) (R.keep ow8.drawn trivial) rfl, fun a w R => cl_t (enter_at Try.func20) (R.val 2) (Whole_any l1 (by omega) (by omega) _), fun a w R => cl_tt (enter_at Try.func36) (R.val 0) (R.val 3) (RCmp_any ⟨by omega, by omega⟩ ⟨by decide, by decide⟩ ⟨by omega, by omega⟩ ⟨by decide, by decide⟩ _), fun a w R => c_lss_tk (R.val 4) (Try.underlying3) t1_.out, fun a w R => asg (R.val 5), trivial⟩ (fun act_ W6 I => ?_)
    rw [I.act [(37, .agg #[.int .u64 (L0 X), .int .u64 (L1 X), .int .u64 (L2 X), .int .u64 (L3 X), .int .u64 (L0 1), .int .u64 (L1 1), .int .u64 (L2 1), .int .u64 (L3 1)]), (38, .pointer (some ⟨gb8, 0, none⟩)), (39, .int .i64 l1), (40, .agg #[.int .u64 (L0 l1), .int .u64 (L1 l1), .int .u64 (L2 l1), .int .u64 (L3 l1), .int .u64 (L0 1), .int .u64 (L1 1), .int .u64 (L2 1), .int .u64 (L3 1)]), (41, .int .i64 (cmV X 1 l1 1)), (42, .bool true), (36, .bool true)]
      ⟨I.val 0, I.val 1, I.val 2, I.val 3, I.val 4, I.val 5, I.val 6, trivial⟩ rfl]
    have sW6 : W5.heap.size ≤ W6.heap.size := I.below.size
    replace ow3 := I.keep ow3.drawn trivial
    replace ow4 := I.keep ow4.drawn trivial
    replace ow5 := I.keep ow5.drawn trivial
    replace ow6 := I.keep ow6.drawn trivial
    replace ow8 := I.keep ow8.drawn trivial
    replace ow9 := I.keep ow9.drawn trivial
    replace ow24 := I.keep ow24.drawn trivial
    have hW6 : Below w.heap.size w W6 := then_ hW5.drew I.below hW5.size
    clear I
    simp only [List.foldl_cons, List.foldl_nil, List.setIfInBounds_toArray, List.set_cons_zero, List.set_cons_succ]
    go_upto_region 10 with fail
    refine region_memo_f (B := w.heap.size) (L := .val (.agg #[.int .u64 0, .int .u64 0, .int .u64 0, .int .u64 0, .int .u64 0, .int .u64 0, .int .u64 0, .int .u64 0]) :: .sto (w.heap.size + 1 + 1 + 1) 36 #[.int .u64 0, .int .u64 0, .int .u64 0, .int .u64 0, .int .u64 0, .int .u64 0, .int .u64 0, .int .u64 0] :: .val (.int .i64 1) :: []) (by kernel_rfl) (hW6.size) (Olds.v (Olds.s (by omega) ow6.in_ (by repeat' (first | exact trivial | refine Off.v ?_ | refine Off.k ?_ | refine Off.b ?_ | refine Off.n ?_ | refine Off.p ?_ | refine Off.s ?_ ?_ | omega)) (Olds.v trivial)))
      ⟨fun a w R => bd0_R, fun a w R => so_R (R.slot 6 rfl) (R.own rfl ow6) rfl (R.val 0), fun a w R => asc, trivial⟩ (fun act_ W7 I => ?_)
    rw [I.act [(49, .agg #[.int .u64 0, .int .u64 0, .int .u64 0, .int .u64 0, .int .u64 0, .int .u64 0, .int .u64 0, .int .u64 0]), (7, .int .i64 1)]
      ⟨I.val 0, I.val 2, trivial⟩ rfl]
    have sW7 : W6.heap.size ≤ W7.heap.size := I.below.size
    replace ow3 := I.keep ow3 (by repeat' (first | exact trivial | refine Off.v ?_ | refine Off.k ?_ | refine Off.b ?_ | refine Off.n ?_ | refine Off.p ?_ | refine Off.s ?_ ?_ | omega))
    replace ow4 := I.keep ow4 (by repeat' (first | exact trivial | refine Off.v ?_ | refine Off.k ?_ | refine Off.b ?_ | refine Off.n ?_ | refine Off.p ?_ | refine Off.s ?_ ?_ | omega))
    replace ow5 := I.keep ow5 (by repeat' (first | exact trivial | refine Off.v ?_ | refine Off.k ?_ | refine Off.b ?_ | refine Off.n ?_ | refine Off.p ?_ | refine Off.s ?_ ?_ | omega))
    replace ow8 := I.keep ow8 (by repeat' (first | exact trivial | refine Off.v ?_ | refine Off.k ?_ | refine Off.b ?_ | refine Off.n ?_ | refine Off.p ?_ | refine Off.s ?_ ?_ | omega))
    replace ow9 := I.keep ow9 (by repeat' (first | exact trivial | refine Off.v ?_ | refine Off.k ?_ | refine Off.b ?_ | refine Off.n ?_ | refine Off.p ?_ | refine Off.s ?_ ?_ | omega))
    replace ow24 := I.keep ow24 (by repeat' (first | exact trivial | refine Off.v ?_ | refine Off.k ?_ | refine Off.b ?_ | refine Off.n ?_ | refine Off.p ?_ | refine Off.s ?_ ?_ | omega))
    replace ow6 := I.sto 1 rfl rfl
    have hW7 : Below w.heap.size w W7 := hW6.trans I.below
    clear I
    simp only [List.foldl_cons, List.foldl_nil, List.setIfInBounds_toArray, List.set_cons_zero, List.set_cons_succ]
    obtain ⟨r6_, r6_1, r6_2⟩ := ow6.at_
    clear ow3 ow4 ow5 ow6 ow8 ow9 ow24
    go_wp2
    try simp only [setCell_drawn]
    refine bodyPost_ret (by first | (simp [results, Try.results19, go_sem, r6_]; done) | (simp [results, Try.results19, go_sem, r6_]; rfl)) rfl ⟨?_, hW7⟩
    simp only [atE, t1_.out]; rfl
  · have t1_ := Lib.hid t1
    clear t1
    go_upto_region 8 with fail
    refine region_memo (B := W5.heap.size) (L := .val (.agg #[.int .u64 (L0 X), .int .u64 (L1 X), .int .u64 (L2 X), .int .u64 (L3 X), .int .u64 (L0 1), .int .u64 (L1 1), .int .u64 (L2 1), .int .u64 (L3 1)]) :: .val (.pointer (some ⟨gb8, 0, none⟩)) :: .val (.int .i64 l1) :: .val (.agg #[.int .u64 (L0 l1), .int .u64 (L1 l1), .int .u64 (L2 l1), .int .u64 (L3 l1), .int .u64 (L0 1), .int .u64 (L1 1), .int .u64 (L2 1), .int .u64 (L3 1)]) :: .val (.int .i64 (cmV X 1 l1 1)) :: .val (.bool false) :: .val (.bool false) :: []) (by kernel_rfl) (by kernel_rfl) (Nat.le_refl _) ((by exact trivial))
      ⟨fun a w R => ld_R (R.slot 5 rfl) (R.keep ow5.drawn trivial) rfl rfl rfl rfl rfl rfl rfl rfl, fun a w R => fa_P_0 (R.slot 8 rfl), fun a w R => ld_int (R.val 1) (R.keep ow8.drawn trivial) rfl, fun a w R => cl_t (enter_at Try.func20) (R.val 2) (Whole_any l1 (by omega) (by omega) _), fun a w R => cl_tt (enter_at Try.func36) (R.val 0) (R.val 3) (RCmp_any ⟨by omega, by omega⟩ ⟨by decide, by decide⟩ ⟨by omega, by omega⟩ ⟨by decide, by decide⟩ _), fun a w R => c_lss_tk (R.val 4) (Try.underlying3) t1_.out, fun a w R => asg (R.val 5), trivial⟩ (fun act_ W6 I => ?_)
    rw [I.act [(37, .agg #[.int .u64 (L0 X), .int .u64 (L1 X), .int .u64 (L2 X), .int .u64 (L3 X), .int .u64 (L0 1), .int .u64 (L1 1), .int .u64 (L2 1), .int .u64 (L3 1)]), (38, .pointer (some ⟨gb8, 0, none⟩)), (39, .int .i64 l1), (40, .agg #[.int .u64 (L0 l1), .int .u64 (L1 l1), .int .u64 (L2 l1), .int .u64 (L3 l1), .int .u64 (L0 1), .int .u64 (L1 1), .int .u64 (L2 1), .int .u64 (L3 1)]), (41, .int .i64 (cmV X 1 l1 1)), (42, .bool false), (36, .bool false)]
      ⟨I.val 0, I.val 1, I.val 2, I.val 3, I.val 4, I.val 5, I.val 6, trivial⟩ rfl]
    have sW6 : W5.heap.size ≤ W6.heap.size := I.below.size
    replace ow3 := I.keep ow3.drawn trivial
    replace ow4 := I.keep ow4.drawn trivial
    replace ow5 := I.keep ow5.drawn trivial
    replace ow6 := I.keep ow6.drawn trivial
    replace ow8 := I.keep ow8.drawn trivial
    replace ow9 := I.keep ow9.drawn trivial
    replace ow24 := I.keep ow24.drawn trivial
    have hW6 : Below w.heap.size w W6 := then_ hW5.drew I.below hW5.size
    clear I
    simp only [List.foldl_cons, List.foldl_nil, List.setIfInBounds_toArray, List.set_cons_zero, List.set_cons_succ]
    rcases Bool.eq_false_or_eq_true (decide (0 < (cmV X 1 h1 1))) with t2 | t2
    · have t2_ := Lib.hid t2
      clear t2
      go_upto_region 9 with fail
      refine region_memo (B := W6.heap.size) (L := .val (.agg #[.int .u64 (L0 X), .int .u64 (L1 X), .int .u64 (L2 X), .int .u64 (L3 X), .int .u64 (L0 1), .int .u64 (L1 1), .int .u64 (L2 1), .int .u64 (L3 1)]) :: .val (.pointer (some ⟨gb9, 0, none⟩)) :: .val (.int .i64 h1) :: .val (.agg #[.int .u64 (L0 h1), .int .u64 (L1 h1), .int .u64 (L2 h1), .int .u64 (L3 h1), .int .u64 (L0 1), .int .u64 (L1 1), .int .u64 (L2 1), .int .u64 (L3 1)]) :: .val (.int .i64 (cmV X 1 h1 1)) :: .val (.bool true) :: .val (.bool true) :: []) (by kernel_rfl) (by kernel_rfl) (Nat.le_refl _) ((by exact trivial))
        ⟨fun a w R => ld_R (R.slot 5 rfl) (R.keep ow5.drawn trivial) rfl rfl rfl rfl rfl rfl rfl rfl, fun a w R => fa_P_0 (R.slot 9 rfl), fun a w R => ld_int (R.val 1) (R.keep ow9.drawn trivial) rfl, fun a w R => cl_t (enter_at Try.func20) (R.val 2) (Whole_any h1 (by omega) (by omega) _), fun a w R => cl_tt (enter_at Try.func36) (R.val 0) (R.val 3) (RCmp_any ⟨by omega, by omega⟩ ⟨by decide, by decide⟩ ⟨by omega, by omega⟩ ⟨by decide, by decide⟩ _), fun a w R => c_gtr_tk (R.val 4) (Try.underlying3) t2_.out, fun a w R => asg (R.val 5), trivial⟩ (fun act_ W7 I => ?_)
      rw [I.act [(43, .agg #[.int .u64 (L0 X), .int .u64 (L1 X), .int .u64 (L2 X), .int .u64 (L3 X), .int .u64 (L0 1), .int .u64 (L1 1), .int .u64 (L2 1), .int .u64 (L3 1)]), (44, .pointer (some ⟨gb9, 0, none⟩)), (45, .int .i64 h1), (46, .agg #[.int .u64 (L0 h1), .int .u64 (L1 h1), .int .u64 (L2 h1), .int .u64 (L3 h1), .int .u64 (L0 1), .int .u64 (L1 1), .int .u64 (L2 1), .int .u64 (L3 1)]), (47, .int .i64 (cmV X 1 h1 1)), (48, .bool true), (36, .bool true)]
        ⟨I.val 0, I.val 1, I.val 2, I.val 3, I.val 4, I.val 5, I.val 6, trivial⟩ rfl]
      have sW7 : W6.heap.size ≤ W7.heap.size := I.below.size
      replace ow3 := I.keep ow3.drawn trivial
      replace ow4 := I.keep ow4.drawn trivial
      replace ow5 := I.keep ow5.drawn trivial
      replace ow6 := I.keep ow6.drawn trivial
      replace ow8 := I.keep ow8.drawn trivial
      replace ow9 := I.keep ow9.drawn trivial
      replace ow24 := I.keep ow24.drawn trivial
      have hW7 : Below w.heap.size w W7 := then_ hW6.drew I.below hW6.size
      clear I
      simp only [List.foldl_cons, List.foldl_nil, List.setIfInBounds_toArray, List.set_cons_zero, List.set_cons_succ]
      go_upto_region 10 with fail
      refine region_memo_f (B := w.heap.size) (L := .val (.agg #[.int .u64 0, .int .u64 0, .int .u64 0, .int .u64 0, .int .u64 0, .int .u64 0, .int .u64 0, .int .u64 0]) :: .sto (w.heap.size + 1 + 1 + 1) 36 #[.int .u64 0, .int .u64 0, .int .u64 0, .int .u64 0, .int .u64 0, .int .u64 0, .int .u64 0, .int .u64 0] :: .val (.int .i64 1) :: []) (by kernel_rfl) (hW7.size) (Olds.v (Olds.s (by omega) ow6.in_ (by repeat' (first | exact trivial | refine Off.v ?_ | refine Off.k ?_ | refine Off.b ?_ | refine Off.n ?_ | refine Off.p ?_ | refine Off.s ?_ ?_ | omega)) (Olds.v trivial)))
        ⟨fun a w R => bd0_R, fun a w R => so_R (R.slot 6 rfl) (R.own rfl ow6) rfl (R.val 0), fun a w R => asc, trivial⟩ (fun act_ W8 I => ?_)
      rw [I.act [(49, .agg #[.int .u64 0, .int .u64 0, .int .u64 0, .int .u64 0, .int .u64 0, .int .u64 0, .int .u64 0, .int .u64 0]), (7, .int .i64 1)]
        ⟨I.val 0, I.val 2, trivial⟩ rfl]
      have sW8 : W7.heap.size ≤ W8.heap.size := I.below.size
      replace ow3 := I.keep ow3 (by repeat' (first | exact trivial | refine Off.v ?_ | refine Off.k ?_ | refine Off.b ?_ | refine Off.n ?_ | refine Off.p ?_ | refine Off.s ?_ ?_ | omega))
      replace ow4 := I.keep ow4 (by repeat' (first | exact trivial | refine Off.v ?_ | refine Off.k ?_ | refine Off.b ?_ | refine Off.n ?_ | refine Off.p ?_ | refine Off.s ?_ ?_ | omega))
      replace ow5 := I.keep ow5 (by repeat' (first | exact trivial | refine Off.v ?_ | refine Off.k ?_ | refine Off.b ?_ | refine Off.n ?_ | refine Off.p ?_ | refine Off.s ?_ ?_ | omega))
      replace ow8 := I.keep ow8 (by repeat' (first | exact trivial | refine Off.v ?_ | refine Off.k ?_ | refine Off.b ?_ | refine Off.n ?_ | refine Off.p ?_ | refine Off.s ?_ ?_ | omega))
      replace ow9 := I.keep ow9 (by repeat' (first | exact trivial | refine Off.v ?_ | refine Off.k ?_ | refine Off.b ?_ | refine Off.n ?_ | refine Off.p ?_ | refine Off.s ?_ ?_ | omega))
      replace ow24 := I.keep ow24 (by repeat' (first | exact trivial | refine Off.v ?_ | refine Off.k ?_ | refine Off.b ?_ | refine Off.n ?_ | refine Off.p ?_ | refine Off.s ?_ ?_ | omega))
      replace ow6 := I.sto 1 rfl rfl
      have hW8 : Below w.heap.size w W8 := hW7.trans I.below
      clear I
      simp only [List.foldl_cons, List.foldl_nil, List.setIfInBounds_toArray, List.set_cons_zero, List.set_cons_succ]
      obtain ⟨r6_, r6_1, r6_2⟩ := ow6.at_
      clear ow3 ow4 ow5 ow6 ow8 ow9 ow24
      go_wp2
      try simp only [setCell_drawn]
      refine bodyPost_ret (by first | (simp [results, Try.results19, go_sem, r6_]; done) | (simp [results, Try.results19, go_sem, r6_]; rfl)) rfl ⟨?_, hW8⟩
      simp only [atE, t1_.out, t2_.out]; rfl
    · have t2_ := Lib.hid t2
      clear t2
      go_upto_region 9 with fail
      refine region_memo (B := W6.heap.size) (L := .val (.agg #[.int .u64 (L0 X), .int .u64 (L1 X), .int .u64 (L2 X), .int .u64 (L3 X), .int .u64 (L0 1), .int .u64 (L1 1), .int .u64 (L2 1), .int .u64 (L3 1)]) :: .val (.pointer (some ⟨gb9, 0, none⟩)) :: .val (.int .i64 h1) :: .val (.agg #[.int .u64 (L0 h1), .int .u64 (L1 h1), .int .u64 (L2 h1), .int .u64 (L3 h1), .int .u64 (L0 1), .int .u64 (L1 1), .int .u64 (L2 1), .int .u64 (L3 1)]) :: .val (.int .i64 (cmV X 1 h1 1)) :: .val (.bool false) :: .val (.bool false) :: []) (by kernel_rfl) (by kernel_rfl) (Nat.le_refl _) ((by exact trivial))
        ⟨fun a w R => ld_R (R.slot 5 rfl) (R.keep ow5.drawn trivial) rfl rfl rfl rfl rfl rfl rfl rfl, fun a w R => fa_P_0 (R.slot 9 rfl), fun a w R => ld_int (R.val 1) (R.keep ow9.drawn trivial) rfl, fun a w R => cl_t (enter_at Try.func20) (R.val 2) (Whole_any h1 (by omega) (by omega) _), fun a w R => cl_tt (enter_at Try.func36) (R.val 0) (R.val 3) (RCmp_any ⟨by omega, by omega⟩ ⟨by decide, by decide⟩ ⟨by omega, by omega⟩ ⟨by decide, by decide⟩ _), fun a w R => c_gtr_tk (R.val 4) (Try.underlying3) t2_.out, fun a w R => asg (R.val 5), trivial⟩ (fun act_ W7 I => ?_)
      rw [I.act [(43, .agg #[.int .u64 (L0 X), .int .u64 (L1 X), .int .u64 (L2 X), .int .u64 (L3 X), .int .u64 (L0 1), .int .u64 (L1 1), .int .u64 (L2 1), .int .u64 (L3 1)]), (44, .pointer (some ⟨gb9, 0, none⟩)), (45, .int .i64 h1), (46, .agg #[.int .u64 (L0 h1), .int .u64 (L1 h1), .int .u64 (L2 h1), .int .u64 (L3 h1), .int .u64 (L0 1), .int .u64 (L1 1), .int .u64 (L2 1), .int .u64 (L3 1)]), (47, .int .i64 (cmV X 1 h1 1)), (48, .bool false), (36, .bool false)]
        ⟨I.val 0, I.val 1, I.val 2, I.val 3, I.val 4, I.val 5, I.val 6, trivial⟩ rfl]
      have sW7 : W6.heap.size ≤ W7.heap.size := I.below.size
      replace ow3 := I.keep ow3.drawn trivial
      replace ow4 := I.keep ow4.drawn trivial
      replace ow5 := I.keep ow5.drawn trivial
      replace ow6 := I.keep ow6.drawn trivial
      replace ow8 := I.keep ow8.drawn trivial
      replace ow9 := I.keep ow9.drawn trivial
      replace ow24 := I.keep ow24.drawn trivial
      have hW7 : Below w.heap.size w W7 := then_ hW6.drew I.below hW6.size
      clear I
      simp only [List.foldl_cons, List.foldl_nil, List.setIfInBounds_toArray, List.set_cons_zero, List.set_cons_succ]
      go_upto_region 11 with fail
      refine region_memo (B := W7.heap.size) (L := .val (.agg #[.int .u64 (L0 X), .int .u64 (L1 X), .int .u64 (L2 X), .int .u64 (L3 X), .int .u64 (L0 1), .int .u64 (L1 1), .int .u64 (L2 1), .int .u64 (L3 1)]) :: .val (.pointer (some ⟨gb8, 0, none⟩)) :: .val (.int .i64 l1) :: .val (.agg #[.int .u64 (L0 l1), .int .u64 (L1 l1), .int .u64 (L2 l1), .int .u64 (L3 l1), .int .u64 (L0 1), .int .u64 (L1 1), .int .u64 (L2 1), .int .u64 (L3 1)]) :: .val (.tuple #[.agg #[.int .u64 (L0 p1), .int .u64 (L1 p1), .int .u64 (L2 p1), .int .u64 (L3 p1), .int .u64 (L0 q1), .int .u64 (L1 q1), .int .u64 (L2 q1), .int .u64 (L3 q1)], .int .i64 0]) :: .val (.tuple #[.agg #[.int .u64 (L0 p1), .int .u64 (L1 p1), .int .u64 (L2 p1), .int .u64 (L3 p1), .int .u64 (L0 q1), .int .u64 (L1 q1), .int .u64 (L2 q1), .int .u64 (L3 q1)], .int .i64 0]) :: .val (.agg #[.int .u64 (L0 p1), .int .u64 (L1 p1), .int .u64 (L2 p1), .int .u64 (L3 p1), .int .u64 (L0 q1), .int .u64 (L1 q1), .int .u64 (L2 q1), .int .u64 (L3 q1)]) :: .val (.int .i64 0) :: .blk 36 8 :: .put 10 36 #[.int .u64 (L0 p1), .int .u64 (L1 p1), .int .u64 (L2 p1), .int .u64 (L3 p1), .int .u64 (L0 q1), .int .u64 (L1 q1), .int .u64 (L2 q1), .int .u64 (L3 q1)] :: .val (.int .i64 0) :: []) (by kernel_rfl) (by kernel_rfl) (Nat.le_refl _) ((by exact trivial))
        ⟨fun a w R => ld_R (R.slot 5 rfl) (R.keep ow5.drawn trivial) rfl rfl rfl rfl rfl rfl rfl rfl, fun a w R => fa_P_0 (R.slot 8 rfl), fun a w R => ld_int (R.val 1) (R.keep ow8.drawn trivial) rfl, fun a w R => cl_t (enter_at Try.func20) (R.val 2) (Whole_any l1 (by omega) (by omega) _), fun a w R => cl_tt (enter_at Try.func37) (R.val 0) (R.val 3) (S1.out _), fun a w R => mv (R.val 4), fun a w R => ex0 (R.val 5), fun a w R => ex1 (R.val 5), fun a w R => al_R, fun a w R => sb_R (R.dep 8) (R.val 6), fun a w R => asg (R.val 7), trivial⟩ (fun act_ W8 I => ?_)
      obtain ⟨gb10, ew10, lw10, ow10⟩ := I.put 9 rfl rfl
      rw [I.act [(51, .agg #[.int .u64 (L0 X), .int .u64 (L1 X), .int .u64 (L2 X), .int .u64 (L3 X), .int .u64 (L0 1), .int .u64 (L1 1), .int .u64 (L2 1), .int .u64 (L3 1)]), (52, .pointer (some ⟨gb8, 0, none⟩)), (53, .int .i64 l1), (54, .agg #[.int .u64 (L0 l1), .int .u64 (L1 l1), .int .u64 (L2 l1), .int .u64 (L3 l1), .int .u64 (L0 1), .int .u64 (L1 1), .int .u64 (L2 1), .int .u64 (L3 1)]), (55, .tuple #[.agg #[.int .u64 (L0 p1), .int .u64 (L1 p1), .int .u64 (L2 p1), .int .u64 (L3 p1), .int .u64 (L0 q1), .int .u64 (L1 q1), .int .u64 (L2 q1), .int .u64 (L3 q1)], .int .i64 0]), (50, .tuple #[.agg #[.int .u64 (L0 p1), .int .u64 (L1 p1), .int .u64 (L2 p1), .int .u64 (L3 p1), .int .u64 (L0 q1), .int .u64 (L1 q1), .int .u64 (L2 q1), .int .u64 (L3 q1)], .int .i64 0]), (56, .agg #[.int .u64 (L0 p1), .int .u64 (L1 p1), .int .u64 (L2 p1), .int .u64 (L3 p1), .int .u64 (L0 q1), .int .u64 (L1 q1), .int .u64 (L2 q1), .int .u64 (L3 q1)]), (57, .int .i64 0), (10, .pointer (some ⟨gb10, 0, none⟩)), (11, .int .i64 0)]
        ⟨I.val 0, I.val 1, I.val 2, I.val 3, I.val 4, I.val 5, I.val 6, I.val 7, ew10, I.val 10, trivial⟩ rfl]
      change W7.heap.size ≤ gb10 at lw10
      have sW8 : W7.heap.size ≤ W8.heap.size := I.below.size
      replace ow3 := I.keep ow3.drawn trivial
      replace ow4 := I.keep ow4.drawn trivial
      replace ow5 := I.keep ow5.drawn trivial
      replace ow6 := I.keep ow6.drawn trivial
      replace ow8 := I.keep ow8.drawn trivial
      replace ow9 := I.keep ow9.drawn trivial
      replace ow24 := I.keep ow24.drawn trivial
      have hW8 : Below w.heap.size w W8 := then_ hW7.drew I.below hW7.size
      clear ew10
      clear I
      simp only [List.foldl_cons, List.foldl_nil, List.setIfInBounds_toArray, List.set_cons_zero, List.set_cons_succ]
      go_upto_region 12 with fail
      refine region_memo_f (B := W8.heap.size) (L := .val (.int .i64 0) :: .val (.bool false) :: []) (by kernel_rfl) (Nat.le_refl _) ((by exact trivial))
        ⟨fun a w R => mv (R.slot 11 rfl), fun a w R => c_neq_tk (R.val 0) (Try.underlying37) (by decide), trivial⟩ (fun act_ W9 I => ?_)
      rw [I.act [(58, .int .i64 0), (59, .bool false)]
        ⟨I.val 0, I.val 1, trivial⟩ rfl]
      have sW9 : W8.heap.size ≤ W9.heap.size := I.below.size
      replace ow3 := I.keep ow3 trivial
      replace ow4 := I.keep ow4 trivial
      replace ow5 := I.keep ow5 trivial
      replace ow6 := I.keep ow6 trivial
      replace ow8 := I.keep ow8 trivial
      replace ow9 := I.keep ow9 trivial
      replace ow24 := I.keep ow24 trivial
      replace ow10 := I.keep ow10 trivial
      have hW9 : Below w.heap.size w W9 := then_ hW8 I.below hW8.size
      clear I
      simp only [List.foldl_cons, List.foldl_nil, List.setIfInBounds_toArray, List.set_cons_zero, List.set_cons_succ]
      go_upto_region 14 with fail
      refine region_memo (B := W9.heap.size) (L := .val (.pointer (some ⟨gb8, 1, none⟩)) :: .val (.int .i64 l2) :: .val (.pointer (some ⟨gb9, 1, none⟩)) :: .val (.int .i64 h2) :: .val (.agg #[.int .u64 (L0 (h2 - l2)), .int .u64 (L1 (h2 - l2)), .int .u64 (L2 (h2 - l2)), .int .u64 (L3 (h2 - l2))]) :: .val (.pointer (some ⟨gb8, 0, none⟩)) :: .val (.int .i64 l1) :: .val (.pointer (some ⟨gb9, 0, none⟩)) :: .val (.int .i64 h1) :: .val (.agg #[.int .u64 (L0 (h1 - l1)), .int .u64 (L1 (h1 - l1)), .int .u64 (L2 (h1 - l1)), .int .u64 (L3 (h1 - l1))]) :: .val (.tuple #[.agg #[.int .u64 (L0 p2), .int .u64 (L1 p2), .int .u64 (L2 p2), .int .u64 (L3 p2), .int .u64 (L0 q2), .int .u64 (L1 q2), .int .u64 (L2 q2), .int .u64 (L3 q2)], .int .i64 0]) :: .val (.tuple #[.agg #[.int .u64 (L0 p2), .int .u64 (L1 p2), .int .u64 (L2 p2), .int .u64 (L3 p2), .int .u64 (L0 q2), .int .u64 (L1 q2), .int .u64 (L2 q2), .int .u64 (L3 q2)], .int .i64 0]) :: .val (.agg #[.int .u64 (L0 p2), .int .u64 (L1 p2), .int .u64 (L2 p2), .int .u64 (L3 p2), .int .u64 (L0 q2), .int .u64 (L1 q2), .int .u64 (L2 q2), .int .u64 (L3 q2)]) :: .val (.int .i64 0) :: .blk 36 8 :: .put 12 36 #[.int .u64 (L0 p2), .int .u64 (L1 p2), .int .u64 (L2 p2), .int .u64 (L3 p2), .int .u64 (L0 q2), .int .u64 (L1 q2), .int .u64 (L2 q2), .int .u64 (L3 q2)] :: .val (.int .i64 0) :: []) (by kernel_rfl) (by kernel_rfl) (Nat.le_refl _) ((by exact trivial))
        ⟨fun a w R => fa_P_1 (R.slot 8 rfl), fun a w R => ld_int (R.val 0) (R.keep ow8.drawn trivial) rfl, fun a w R => fa_P_1 (R.slot 9 rfl), fun a w R => ld_int (R.val 2) (R.keep ow9.drawn trivial) rfl, fun a w R => cl_tt (enter_at Try.func32) (R.val 1) (R.val 3) (gap_any _ _ ⟨by omega, by omega⟩ ⟨by omega, by omega⟩ _), fun a w R => fa_P_0 (R.slot 8 rfl), fun a w R => ld_int (R.val 5) (R.keep ow8.drawn trivial) rfl, fun a w R => fa_P_0 (R.slot 9 rfl), fun a w R => ld_int (R.val 7) (R.keep ow9.drawn trivial) rfl, fun a w R => cl_tt (enter_at Try.func32) (R.val 6) (R.val 8) (gap_any _ _ ⟨by omega, by omega⟩ ⟨by omega, by omega⟩ _), fun a w R => cl_tt (enter_at Try.func38) (R.val 4) (R.val 9) (S2.out _), fun a w R => mv (R.val 10), fun a w R => ex0 (R.val 11), fun a w R => ex1 (R.val 11), fun a w R => al_R, fun a w R => sb_R (R.dep 14) (R.val 12), fun a w R => asg (R.val 13), trivial⟩ (fun act_ W10 I => ?_)
      obtain ⟨gb12, ew12, lw12, ow12⟩ := I.put 15 rfl rfl
      rw [I.act [(63, .pointer (some ⟨gb8, 1, none⟩)), (64, .int .i64 l2), (65, .pointer (some ⟨gb9, 1, none⟩)), (66, .int .i64 h2), (67, .agg #[.int .u64 (L0 (h2 - l2)), .int .u64 (L1 (h2 - l2)), .int .u64 (L2 (h2 - l2)), .int .u64 (L3 (h2 - l2))]), (68, .pointer (some ⟨gb8, 0, none⟩)), (69, .int .i64 l1), (70, .pointer (some ⟨gb9, 0, none⟩)), (71, .int .i64 h1), (72, .agg #[.int .u64 (L0 (h1 - l1)), .int .u64 (L1 (h1 - l1)), .int .u64 (L2 (h1 - l1)), .int .u64 (L3 (h1 - l1))]), (73, .tuple #[.agg #[.int .u64 (L0 p2), .int .u64 (L1 p2), .int .u64 (L2 p2), .int .u64 (L3 p2), .int .u64 (L0 q2), .int .u64 (L1 q2), .int .u64 (L2 q2), .int .u64 (L3 q2)], .int .i64 0]), (62, .tuple #[.agg #[.int .u64 (L0 p2), .int .u64 (L1 p2), .int .u64 (L2 p2), .int .u64 (L3 p2), .int .u64 (L0 q2), .int .u64 (L1 q2), .int .u64 (L2 q2), .int .u64 (L3 q2)], .int .i64 0]), (74, .agg #[.int .u64 (L0 p2), .int .u64 (L1 p2), .int .u64 (L2 p2), .int .u64 (L3 p2), .int .u64 (L0 q2), .int .u64 (L1 q2), .int .u64 (L2 q2), .int .u64 (L3 q2)]), (75, .int .i64 0), (12, .pointer (some ⟨gb12, 0, none⟩)), (11, .int .i64 0)]
        ⟨I.val 0, I.val 1, I.val 2, I.val 3, I.val 4, I.val 5, I.val 6, I.val 7, I.val 8, I.val 9, I.val 10, I.val 11, I.val 12, I.val 13, ew12, I.val 16, trivial⟩ rfl]
      change W9.heap.size ≤ gb12 at lw12
      have sW10 : W9.heap.size ≤ W10.heap.size := I.below.size
      replace ow3 := I.keep ow3.drawn trivial
      replace ow4 := I.keep ow4.drawn trivial
      replace ow5 := I.keep ow5.drawn trivial
      replace ow6 := I.keep ow6.drawn trivial
      replace ow8 := I.keep ow8.drawn trivial
      replace ow9 := I.keep ow9.drawn trivial
      replace ow24 := I.keep ow24.drawn trivial
      replace ow10 := I.keep ow10.drawn trivial
      have hW10 : Below w.heap.size w W10 := then_ hW9.drew I.below hW9.size
      clear ew12
      clear I
      simp only [List.foldl_cons, List.foldl_nil, List.setIfInBounds_toArray, List.set_cons_zero, List.set_cons_succ]
      go_upto_region 15 with fail
      refine region_memo_f (B := W10.heap.size) (L := .val (.int .i64 0) :: .val (.bool false) :: []) (by kernel_rfl) (Nat.le_refl _) ((by exact trivial))
        ⟨fun a w R => mv (R.slot 11 rfl), fun a w R => c_neq_tk (R.val 0) (Try.underlying37) (by decide), trivial⟩ (fun act_ W11 I => ?_)
      rw [I.act [(76, .int .i64 0), (77, .bool false)]
        ⟨I.val 0, I.val 1, trivial⟩ rfl]
      have sW11 : W10.heap.size ≤ W11.heap.size := I.below.size
      replace ow3 := I.keep ow3 trivial
      replace ow4 := I.keep ow4 trivial
      replace ow5 := I.keep ow5 trivial
      replace ow6 := I.keep ow6 trivial
      replace ow8 := I.keep ow8 trivial
      replace ow9 := I.keep ow9 trivial
      replace ow24 := I.keep ow24 trivial
      replace ow10 := I.keep ow10 trivial
      replace ow12 := I.keep ow12 trivial
      have hW11 : Below w.heap.size w W11 := then_ hW10 I.below hW10.size
      clear I
      simp only [List.foldl_cons, List.foldl_nil, List.setIfInBounds_toArray, List.set_cons_zero, List.set_cons_succ]
      go_upto_region 17 with fail
      refine region_memo_f (B := W11.heap.size) (L := .val (.agg #[.int .u64 (L0 p1), .int .u64 (L1 p1), .int .u64 (L2 p1), .int .u64 (L3 p1), .int .u64 (L0 q1), .int .u64 (L1 q1), .int .u64 (L2 q1), .int .u64 (L3 q1)]) :: .val (.agg #[.int .u64 (L0 p2), .int .u64 (L1 p2), .int .u64 (L2 p2), .int .u64 (L3 p2), .int .u64 (L0 q2), .int .u64 (L1 q2), .int .u64 (L2 q2), .int .u64 (L3 q2)]) :: .val (.tuple #[.agg #[.int .u64 (L0 p3), .int .u64 (L1 p3), .int .u64 (L2 p3), .int .u64 (L3 p3), .int .u64 (L0 q3), .int .u64 (L1 q3), .int .u64 (L2 q3), .int .u64 (L3 q3)], .int .i64 0]) :: .val (.tuple #[.agg #[.int .u64 (L0 p3), .int .u64 (L1 p3), .int .u64 (L2 p3), .int .u64 (L3 p3), .int .u64 (L0 q3), .int .u64 (L1 q3), .int .u64 (L2 q3), .int .u64 (L3 q3)], .int .i64 0]) :: .val (.agg #[.int .u64 (L0 p3), .int .u64 (L1 p3), .int .u64 (L2 p3), .int .u64 (L3 p3), .int .u64 (L0 q3), .int .u64 (L1 q3), .int .u64 (L2 q3), .int .u64 (L3 q3)]) :: .val (.int .i64 0) :: .blk 36 8 :: .put 13 36 #[.int .u64 (L0 p3), .int .u64 (L1 p3), .int .u64 (L2 p3), .int .u64 (L3 p3), .int .u64 (L0 q3), .int .u64 (L1 q3), .int .u64 (L2 q3), .int .u64 (L3 q3)] :: .val (.int .i64 0) :: []) (by kernel_rfl) (Nat.le_refl _) ((by exact trivial))
        ⟨fun a w R => ld_R (R.slot 10 rfl) (R.keep ow10 trivial) rfl rfl rfl rfl rfl rfl rfl rfl, fun a w R => ld_R (R.slot 12 rfl) (R.keep ow12 trivial) rfl rfl rfl rfl rfl rfl rfl rfl, fun a w R => cl_tt (enter_at Try.func39) (R.val 0) (R.val 1) (S3.out _), fun a w R => mv (R.val 2), fun a w R => ex0 (R.val 3), fun a w R => ex1 (R.val 3), fun a w R => al_R, fun a w R => sb_R (R.dep 6) (R.val 4), fun a w R => asg (R.val 5), trivial⟩ (fun act_ W12 I => ?_)
      obtain ⟨gb13, ew13, lw13, ow13⟩ := I.put 7 rfl rfl
      rw [I.act [(81, .agg #[.int .u64 (L0 p1), .int .u64 (L1 p1), .int .u64 (L2 p1), .int .u64 (L3 p1), .int .u64 (L0 q1), .int .u64 (L1 q1), .int .u64 (L2 q1), .int .u64 (L3 q1)]), (82, .agg #[.int .u64 (L0 p2), .int .u64 (L1 p2), .int .u64 (L2 p2), .int .u64 (L3 p2), .int .u64 (L0 q2), .int .u64 (L1 q2), .int .u64 (L2 q2), .int .u64 (L3 q2)]), (83, .tuple #[.agg #[.int .u64 (L0 p3), .int .u64 (L1 p3), .int .u64 (L2 p3), .int .u64 (L3 p3), .int .u64 (L0 q3), .int .u64 (L1 q3), .int .u64 (L2 q3), .int .u64 (L3 q3)], .int .i64 0]), (80, .tuple #[.agg #[.int .u64 (L0 p3), .int .u64 (L1 p3), .int .u64 (L2 p3), .int .u64 (L3 p3), .int .u64 (L0 q3), .int .u64 (L1 q3), .int .u64 (L2 q3), .int .u64 (L3 q3)], .int .i64 0]), (84, .agg #[.int .u64 (L0 p3), .int .u64 (L1 p3), .int .u64 (L2 p3), .int .u64 (L3 p3), .int .u64 (L0 q3), .int .u64 (L1 q3), .int .u64 (L2 q3), .int .u64 (L3 q3)]), (85, .int .i64 0), (13, .pointer (some ⟨gb13, 0, none⟩)), (11, .int .i64 0)]
        ⟨I.val 0, I.val 1, I.val 2, I.val 3, I.val 4, I.val 5, ew13, I.val 8, trivial⟩ rfl]
      change W11.heap.size ≤ gb13 at lw13
      have sW12 : W11.heap.size ≤ W12.heap.size := I.below.size
      replace ow3 := I.keep ow3 trivial
      replace ow4 := I.keep ow4 trivial
      replace ow5 := I.keep ow5 trivial
      replace ow6 := I.keep ow6 trivial
      replace ow8 := I.keep ow8 trivial
      replace ow9 := I.keep ow9 trivial
      replace ow24 := I.keep ow24 trivial
      replace ow10 := I.keep ow10 trivial
      replace ow12 := I.keep ow12 trivial
      have hW12 : Below w.heap.size w W12 := then_ hW11 I.below hW11.size
      clear ew13
      clear I
      simp only [List.foldl_cons, List.foldl_nil, List.setIfInBounds_toArray, List.set_cons_zero, List.set_cons_succ]
      go_upto_region 18 with fail
      refine region_memo_f (B := W12.heap.size) (L := .val (.int .i64 0) :: .val (.bool false) :: []) (by kernel_rfl) (Nat.le_refl _) ((by exact trivial))
        ⟨fun a w R => mv (R.slot 11 rfl), fun a w R => c_neq_tk (R.val 0) (Try.underlying37) (by decide), trivial⟩ (fun act_ W13 I => ?_)
      rw [I.act [(86, .int .i64 0), (87, .bool false)]
        ⟨I.val 0, I.val 1, trivial⟩ rfl]
      have sW13 : W12.heap.size ≤ W13.heap.size := I.below.size
      replace ow3 := I.keep ow3 trivial
      replace ow4 := I.keep ow4 trivial
      replace ow5 := I.keep ow5 trivial
      replace ow6 := I.keep ow6 trivial
      replace ow8 := I.keep ow8 trivial
      replace ow9 := I.keep ow9 trivial
      replace ow24 := I.keep ow24 trivial
      replace ow10 := I.keep ow10 trivial
      replace ow12 := I.keep ow12 trivial
      replace ow13 := I.keep ow13 trivial
      have hW13 : Below w.heap.size w W13 := then_ hW12 I.below hW12.size
      clear I
      simp only [List.foldl_cons, List.foldl_nil, List.setIfInBounds_toArray, List.set_cons_zero, List.set_cons_succ]
      go_upto_region 20 with fail
      refine region_memo (B := w.heap.size) (L := .val (.agg #[.int .u64 (L0 p3), .int .u64 (L1 p3), .int .u64 (L2 p3), .int .u64 (L3 p3), .int .u64 (L0 q3), .int .u64 (L1 q3), .int .u64 (L2 q3), .int .u64 (L3 q3)]) :: .val (.pointer (some ⟨gb8, 1, none⟩)) :: .val (.int .i64 l2) :: .val (.agg #[.int .u64 (L0 l2), .int .u64 (L1 l2), .int .u64 (L2 l2), .int .u64 (L3 l2), .int .u64 (L0 1), .int .u64 (L1 1), .int .u64 (L2 1), .int .u64 (L3 1)]) :: .val (.tuple #[.agg #[.int .u64 (L0 p4), .int .u64 (L1 p4), .int .u64 (L2 p4), .int .u64 (L3 p4), .int .u64 (L0 q4), .int .u64 (L1 q4), .int .u64 (L2 q4), .int .u64 (L3 q4)], .int .i64 0]) :: .val (.agg #[.int .u64 (L0 p4), .int .u64 (L1 p4), .int .u64 (L2 p4), .int .u64 (L3 p4), .int .u64 (L0 q4), .int .u64 (L1 q4), .int .u64 (L2 q4), .int .u64 (L3 q4)]) :: .val (.int .i64 0) :: .sto (w.heap.size + 1 + 1 + 1) 36 #[.int .u64 (L0 p4), .int .u64 (L1 p4), .int .u64 (L2 p4), .int .u64 (L3 p4), .int .u64 (L0 q4), .int .u64 (L1 q4), .int .u64 (L2 q4), .int .u64 (L3 q4)] :: .val (.int .i64 0) :: []) (by kernel_rfl) (by kernel_rfl) (hW13.size) (Olds.v (Olds.v (Olds.v (Olds.v (Olds.v (Olds.v (Olds.v (Olds.s (by omega) ow6.drawn.in_ (by repeat' (first | exact trivial | refine Off.v ?_ | refine Off.k ?_ | refine Off.b ?_ | refine Off.n ?_ | refine Off.p ?_ | refine Off.s ?_ ?_ | omega)) (Olds.v trivial)))))))))
        ⟨fun a w R => ld_R (R.slot 13 rfl) (R.keep ow13.drawn (by repeat' (first | exact trivial | refine Off.v ?_ | refine Off.k ?_ | refine Off.b ?_ | refine Off.n ?_ | refine Off.p ?_ | refine Off.s ?_ ?_ | omega))) rfl rfl rfl rfl rfl rfl rfl rfl, fun a w R => fa_P_1 (R.slot 8 rfl), fun a w R => ld_int (R.val 1) (R.keep ow8.drawn (by repeat' (first | exact trivial | refine Off.v ?_ | refine Off.k ?_ | refine Off.b ?_ | refine Off.n ?_ | refine Off.p ?_ | refine Off.s ?_ ?_ | omega))) rfl, fun a w R => cl_t (enter_at Try.func20) (R.val 2) (Whole_any l2 (by omega) (by omega) _), fun a w R => cl_tt (enter_at Try.func40) (R.val 0) (R.val 3) (S4.out _), fun a w R => ex0 (R.val 4), fun a w R => ex1 (R.val 4), fun a w R => so_R (R.slot 6 rfl) (R.own rfl ow6.drawn) rfl (R.val 5), fun a w R => asg (R.val 6), trivial⟩ (fun act_ W14 I => ?_)
      rw [I.act [(90, .agg #[.int .u64 (L0 p3), .int .u64 (L1 p3), .int .u64 (L2 p3), .int .u64 (L3 p3), .int .u64 (L0 q3), .int .u64 (L1 q3), .int .u64 (L2 q3), .int .u64 (L3 q3)]), (91, .pointer (some ⟨gb8, 1, none⟩)), (92, .int .i64 l2), (93, .agg #[.int .u64 (L0 l2), .int .u64 (L1 l2), .int .u64 (L2 l2), .int .u64 (L3 l2), .int .u64 (L0 1), .int .u64 (L1 1), .int .u64 (L2 1), .int .u64 (L3 1)]), (94, .tuple #[.agg #[.int .u64 (L0 p4), .int .u64 (L1 p4), .int .u64 (L2 p4), .int .u64 (L3 p4), .int .u64 (L0 q4), .int .u64 (L1 q4), .int .u64 (L2 q4), .int .u64 (L3 q4)], .int .i64 0]), (95, .agg #[.int .u64 (L0 p4), .int .u64 (L1 p4), .int .u64 (L2 p4), .int .u64 (L3 p4), .int .u64 (L0 q4), .int .u64 (L1 q4), .int .u64 (L2 q4), .int .u64 (L3 q4)]), (96, .int .i64 0), (7, .int .i64 0)]
        ⟨I.val 0, I.val 1, I.val 2, I.val 3, I.val 4, I.val 5, I.val 6, I.val 8, trivial⟩ rfl]
      have sW14 : W13.heap.size ≤ W14.heap.size := I.below.size
      replace ow3 := I.keep ow3.drawn (by repeat' (first | exact trivial | refine Off.v ?_ | refine Off.k ?_ | refine Off.b ?_ | refine Off.n ?_ | refine Off.p ?_ | refine Off.s ?_ ?_ | omega))
      replace ow4 := I.keep ow4.drawn (by repeat' (first | exact trivial | refine Off.v ?_ | refine Off.k ?_ | refine Off.b ?_ | refine Off.n ?_ | refine Off.p ?_ | refine Off.s ?_ ?_ | omega))
      replace ow5 := I.keep ow5.drawn (by repeat' (first | exact trivial | refine Off.v ?_ | refine Off.k ?_ | refine Off.b ?_ | refine Off.n ?_ | refine Off.p ?_ | refine Off.s ?_ ?_ | omega))
      replace ow8 := I.keep ow8.drawn (by repeat' (first | exact trivial | refine Off.v ?_ | refine Off.k ?_ | refine Off.b ?_ | refine Off.n ?_ | refine Off.p ?_ | refine Off.s ?_ ?_ | omega))
      replace ow9 := I.keep ow9.drawn (by repeat' (first | exact trivial | refine Off.v ?_ | refine Off.k ?_ | refine Off.b ?_ | refine Off.n ?_ | refine Off.p ?_ | refine Off.s ?_ ?_ | omega))
      replace ow24 := I.keep ow24.drawn (by repeat' (first | exact trivial | refine Off.v ?_ | refine Off.k ?_ | refine Off.b ?_ | refine Off.n ?_ | refine Off.p ?_ | refine Off.s ?_ ?_ | omega))
      replace ow10 := I.keep ow10.drawn (by repeat' (first | exact trivial | refine Off.v ?_ | refine Off.k ?_ | refine Off.b ?_ | refine Off.n ?_ | refine Off.p ?_ | refine Off.s ?_ ?_ | omega))
      replace ow12 := I.keep ow12.drawn (by repeat' (first | exact trivial | refine Off.v ?_ | refine Off.k ?_ | refine Off.b ?_ | refine Off.n ?_ | refine Off.p ?_ | refine Off.s ?_ ?_ | omega))
      replace ow13 := I.keep ow13.drawn (by repeat' (first | exact trivial | refine Off.v ?_ | refine Off.k ?_ | refine Off.b ?_ | refine Off.n ?_ | refine Off.p ?_ | refine Off.s ?_ ?_ | omega))
      replace ow6 := I.sto 7 rfl rfl
      have hW14 : Below w.heap.size w W14 := hW13.drew.trans I.below
      clear I
      simp only [List.foldl_cons, List.foldl_nil, List.setIfInBounds_toArray, List.set_cons_zero, List.set_cons_succ]
      obtain ⟨r6_, r6_1, r6_2⟩ := ow6.at_
      clear ow3 ow4 ow5 ow6 ow8 ow9 ow24 ow10 ow12 ow13
      go_wp2
      try simp only [setCell_drawn]
      refine bodyPost_ret (by first | (simp [results, Try.results19, go_sem, r6_]; done) | (simp [results, Try.results19, go_sem, r6_]; rfl)) rfl ⟨?_, hW14⟩
      simp only [atE, t1_.out, t2_.out]; rfl
end Go.Proofs.Ytlifghecgpibfaa
