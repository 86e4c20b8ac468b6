/- GeomEnds: a line has its ends' Y at its ends' X, and where it has a whole point, that one is on it; for any three points. -/
import Derived.Test.YtlifghecgpibfaaRows
import Derived.Test.YtlifghecgpibfaaBase
import Derived.Test.YtlifghecgpibfaaGeoH
import Derived.Test.YtlifghecgpibfaaPts
import Derived.Test.YtlifghecgpibfaaGeoGe
import Derived.WalkKit
import Derived.ProofKit
import Derived.OpenShut
import Derived.ShutString
import Derived.ChangeOld
import Derived.Below
import Derived.SliceStrings
namespace Go.Proofs.Ytlifghecgpibfaa.geomEnds
open Go.ChangeShapes Go.WideShapes Go.ChangeAt Go.RowKit
open Go.ChangeMaps (open_string shut_string)
set_option linter.unusedVariables false

set_option linter.unusedSimpArgs false

theorem own : ownKnob Try.prog.godebug = none := by kernel_rfl
theorem laidOut : laidOutB Try.prog = true := by kernel_rfl

set_option maxHeartbeats 16000000 in
set_option maxRecDepth 20000 in
theorem walk (a1 a2 : Int) (b1 b2 : Int) (p1 p2 : Int) (w : World) (fa1 : (Lit.int .i64 a1).wf = true) (fa2 : (Lit.int .i64 a2).wf = true) (fb1 : (Lit.int .i64 b1).wf = true) (fb2 : (Lit.int .i64 b2).wf = true) (fp1 : (Lit.int .i64 p1).wf = true) (fp2 : (Lit.int .i64 p2).wf = true) :
    Calls Try.prog 5 #[.agg #[.int .i64 a1, .int .i64 a2], .agg #[.int .i64 b1, .int .i64 b2], .agg #[.int .i64 p1, .int .i64 p2]] w fun e w' => e = .returned (.bool true) ∧ Below w.heap.size w w' := by
  have EA : Hid (decide (a2 = a2 ∧ (1 : Int) = 1) = true) := Lib.hid (by simp)
  have EB : Hid (decide (b2 = b2 ∧ (1 : Int) = 1) = true) := Lib.hid (by simp)
  go_enter Try.func5, Try.ntmps5
  go_upto_region 1 with fail
  go_name_world W0 hW0e
  have ow3 : Own W0 w.heap.size 23 #[.int .i64 a1, .int .i64 a2] := hW0e ▸ (by repeat' (first | (with_reducible assumption) | (with_reducible refine Own.drawnN ?_ _) | (with_reducible refine Own.drawn ?_) | (with_reducible refine Own.made_at ?_; first | rfl | (simp; done) | omega | (simp; omega)) | (with_reducible refine Own.more ?_ _) | (with_reducible refine Own.apart ?_ ?_ _ _; rotate_left; first | omega | (simp; done) | (simp; omega)) | (refine Own.put ?_ _ _)))
  have ow4 : Own W0 (w.heap.size + 1) 23 #[.int .i64 b1, .int .i64 b2] := hW0e ▸ (by repeat' (first | (with_reducible assumption) | (with_reducible refine Own.drawnN ?_ _) | (with_reducible refine Own.drawn ?_) | (with_reducible refine Own.made_at ?_; first | rfl | (simp; done) | omega | (simp; omega)) | (with_reducible refine Own.more ?_ _) | (with_reducible refine Own.apart ?_ ?_ _ _; rotate_left; first | omega | (simp; done) | (simp; omega)) | (refine Own.put ?_ _ _)))
  have ow5 : Own W0 (w.heap.size + 1 + 1) 23 #[.int .i64 p1, .int .i64 p2] := hW0e ▸ (by repeat' (first | (with_reducible assumption) | (with_reducible refine Own.drawnN ?_ _) | (with_reducible refine Own.drawn ?_) | (with_reducible refine Own.made_at ?_; first | rfl | (simp; done) | omega | (simp; omega)) | (with_reducible refine Own.more ?_ _) | (with_reducible refine Own.apart ?_ ?_ _ _; rotate_left; first | omega | (simp; done) | (simp; omega)) | (refine Own.put ?_ _ _)))
  have hW0 : Below w.heap.size w W0 := hW0e ▸ (by repeat' (first | (with_reducible exact Below.refl _ _) | (with_reducible assumption) | (with_reducible refine below_drewN ?_ _) | (with_reducible refine Below.drew ?_) | (with_reducible refine Below.alloc ?_ ?_ _) | (with_reducible refine Below.setCell ?_ ?_ _) | (with_reducible refine then_ ?_ (by with_reducible assumption) ?_) | (with_reducible exact Nat.le_refl _) | (with_reducible exact Nat.le_succ _) | (with_reducible exact Nat.le_succ_of_le (by with_reducible assumption)) | omega | (simp; done) | (simp; omega) | (exact Nat.le_succ _) | (exact Nat.le_succ_of_le (by with_reducible assumption))))
  clear hW0e
  have z0 := ow5.in_
  rcases Bool.eq_false_or_eq_true (in3 a1 a2 b1 b2 p1 p2) with t1 | t1
  · have t1_ := Lib.hid t1
    clear t1
    rcases Bool.eq_false_or_eq_true ((a1 == b1)) with t2 | t2
    · have t2_ := Lib.hid t2
      clear t2
      go_upto_region 1 with fail
      refine region_memo_f (B := W0.heap.size) (L := .val (.agg #[.int .i64 a1, .int .i64 a2]) :: .val (.agg #[.int .i64 b1, .int .i64 b2]) :: .val (.agg #[.int .i64 p1, .int .i64 p2]) :: .new 23 #[.int .i64 a1, .int .i64 a2, .int .i64 b1, .int .i64 b2, .int .i64 p1, .int .i64 p2] (some (3, 3)) :: .val (.bool true) :: .val (.bool false) :: .val (.bool false) :: .val (.pointer (some ⟨w.heap.size, 0, none⟩)) :: .val (.int .i64 a1) :: .val (.pointer (some ⟨(w.heap.size + 1), 0, none⟩)) :: .val (.int .i64 b1) :: .val (.bool true) :: .val (.bool true) :: []) (by kernel_rfl) (Nat.le_refl _) ((by exact trivial))
        ⟨fun a w R => ld_P (R.slot 3 rfl) (R.keep ow3 trivial) rfl rfl, fun a w R => ld_P (R.slot 4 rfl) (R.keep ow4 trivial) rfl rfl, fun a w R => ld_P (R.slot 5 rfl) (R.keep ow5 trivial) rfl rfl, fun a w R => bsP_3 (R.val 0) (R.val 1) (R.val 2), fun a w R => cl_n (enter_at Try.func11) (R.dep 3) (fun g hg => lawin3 t1_.out hg), fun a w R => notb (R.val 4), fun a w R => mv (R.val 5), fun a w R => fa_P_0 (R.slot 3 rfl), fun a w R => ld_int (R.val 7) (R.keep ow3 trivial) rfl, fun a w R => fa_P_0 (R.slot 4 rfl), fun a w R => ld_int (R.val 9) (R.keep ow4 trivial) rfl, fun a w R => c_eql_tt (R.val 8) (R.val 10) (Try.underlying3) t2_.out, fun a w R => pickn (R.val 6) (R.val 11), trivial⟩ (fun act_ W1 I => ?_)
      obtain ⟨gb16, ew16, lw16, ow16⟩ := I.new 3 rfl rfl rfl
      rw [I.act [(13, .agg #[.int .i64 a1, .int .i64 a2]), (14, .agg #[.int .i64 b1, .int .i64 b2]), (15, .agg #[.int .i64 p1, .int .i64 p2]), (16, .slice (some ⟨gb16, 0, none⟩) 3 3), (17, .bool true), (18, .bool false), (19, .bool false), (20, .pointer (some ⟨w.heap.size, 0, none⟩)), (21, .int .i64 a1), (22, .pointer (some ⟨(w.heap.size + 1), 0, none⟩)), (23, .int .i64 b1), (24, .bool true), (25, .bool true)]
        ⟨I.val 0, I.val 1, I.val 2, ew16, I.val 4, I.val 5, I.val 6, I.val 7, I.val 8, I.val 9, I.val 10, I.val 11, I.val 12, trivial⟩ rfl]
      change W0.heap.size ≤ gb16 at lw16
      have sW1 : W0.heap.size ≤ W1.heap.size := I.below.size
      replace ow3 := I.keep ow3 trivial
      replace ow4 := I.keep ow4 trivial
      replace ow5 := I.keep ow5 trivial
      have hW1 : Below w.heap.size w W1 := then_ hW0 I.below hW0.size
      clear ew16
      clear I
      simp only [List.foldl_cons, List.foldl_nil, List.setIfInBounds_toArray, List.set_cons_zero, List.set_cons_succ]
      go_upto_region 2 with fail
      refine region_memo_f (B := W1.heap.size) (L := .val (.bool true) :: .val (.bool true) :: []) (by kernel_rfl) (Nat.le_refl _) ((by exact trivial))
        ⟨fun a w R => cl_0 (enter_at Try.func12)  (awake_any _), fun a w R => asg (R.val 0), trivial⟩ (fun act_ W2 I => ?_)
      rw [I.act [(26, .bool true), (6, .bool true)]
        ⟨I.val 0, I.val 1, trivial⟩ rfl]
      have sW2 : W1.heap.size ≤ W2.heap.size := I.below.size
      replace ow3 := I.keep ow3 trivial
      replace ow4 := I.keep ow4 trivial
      replace ow5 := I.keep ow5 trivial
      replace ow16 := I.keep ow16 trivial
      have hW2 : Below w.heap.size w W2 := then_ hW1 I.below hW1.size
      clear I
      simp only [List.foldl_cons, List.foldl_nil, List.setIfInBounds_toArray, List.set_cons_zero, List.set_cons_succ]
      clear ow3 ow4 ow5 ow16
      go_wp2
      try simp only [setCell_drawn]
      refine bodyPost_ret (by first | (simp [results, Try.results5, go_sem]; done) | (simp [results, Try.results5, go_sem]; rfl)) rfl ⟨?_, hW2⟩
      rfl
    · have t2_ := Lib.hid t2
      clear t2
      obtain ⟨ra_, rb_, rp_⟩ := in3_iff.1 t1_.out
      obtain ⟨SA0, SB0, r, s, er, SP0, fr, fs, HZ0⟩ := at_law ra_ rb_ rp_ (show ¬ a1 = b1 by have := t2_.out; simpa using this)
      have SA := Lib.hid SA0
      have SB := Lib.hid SB0
      have SP := Lib.hid SP0
      have HZ := Lib.hid HZ0
      clear SA0 SB0 SP0 HZ0
      obtain ⟨_, _, _, _⟩ := ra_
      obtain ⟨_, _, _, _⟩ := rb_
      obtain ⟨_, _, _, _⟩ := rp_
      go_upto_region 1 with fail
      refine region_memo_f (B := W0.heap.size) (L := .val (.agg #[.int .i64 a1, .int .i64 a2]) :: .val (.agg #[.int .i64 b1, .int .i64 b2]) :: .val (.agg #[.int .i64 p1, .int .i64 p2]) :: .new 23 #[.int .i64 a1, .int .i64 a2, .int .i64 b1, .int .i64 b2, .int .i64 p1, .int .i64 p2] (some (3, 3)) :: .val (.bool true) :: .val (.bool false) :: .val (.bool false) :: .val (.pointer (some ⟨w.heap.size, 0, none⟩)) :: .val (.int .i64 a1) :: .val (.pointer (some ⟨(w.heap.size + 1), 0, none⟩)) :: .val (.int .i64 b1) :: .val (.bool false) :: .val (.bool false) :: []) (by kernel_rfl) (Nat.le_refl _) ((by exact trivial))
        ⟨fun a w R => ld_P (R.slot 3 rfl) (R.keep ow3 trivial) rfl rfl, fun a w R => ld_P (R.slot 4 rfl) (R.keep ow4 trivial) rfl rfl, fun a w R => ld_P (R.slot 5 rfl) (R.keep ow5 trivial) rfl rfl, fun a w R => bsP_3 (R.val 0) (R.val 1) (R.val 2), fun a w R => cl_n (enter_at Try.func11) (R.dep 3) (fun g hg => lawin3 t1_.out hg), fun a w R => notb (R.val 4), fun a w R => mv (R.val 5), fun a w R => fa_P_0 (R.slot 3 rfl), fun a w R => ld_int (R.val 7) (R.keep ow3 trivial) rfl, fun a w R => fa_P_0 (R.slot 4 rfl), fun a w R => ld_int (R.val 9) (R.keep ow4 trivial) rfl, fun a w R => c_eql_tt (R.val 8) (R.val 10) (Try.underlying3) t2_.out, fun a w R => pickn (R.val 6) (R.val 11), trivial⟩ (fun act_ W1 I => ?_)
      obtain ⟨gb16, ew16, lw16, ow16⟩ := I.new 3 rfl rfl rfl
      rw [I.act [(13, .agg #[.int .i64 a1, .int .i64 a2]), (14, .agg #[.int .i64 b1, .int .i64 b2]), (15, .agg #[.int .i64 p1, .int .i64 p2]), (16, .slice (some ⟨gb16, 0, none⟩) 3 3), (17, .bool true), (18, .bool false), (19, .bool false), (20, .pointer (some ⟨w.heap.size, 0, none⟩)), (21, .int .i64 a1), (22, .pointer (some ⟨(w.heap.size + 1), 0, none⟩)), (23, .int .i64 b1), (24, .bool false), (25, .bool false)]
        ⟨I.val 0, I.val 1, I.val 2, ew16, I.val 4, I.val 5, I.val 6, I.val 7, I.val 8, I.val 9, I.val 10, I.val 11, I.val 12, trivial⟩ rfl]
      change W0.heap.size ≤ gb16 at lw16
      have sW1 : W0.heap.size ≤ W1.heap.size := I.below.size
      replace ow3 := I.keep ow3 trivial
      replace ow4 := I.keep ow4 trivial
      replace ow5 := I.keep ow5 trivial
      have hW1 : Below w.heap.size w W1 := then_ hW0 I.below hW0.size
      clear ew16
      clear I
      simp only [List.foldl_cons, List.foldl_nil, List.setIfInBounds_toArray, List.set_cons_zero, List.set_cons_succ]
      go_upto_region 3 with fail
      refine region_memo (B := W1.heap.size) (L := .val (.agg #[.int .i64 a1, .int .i64 a2]) :: .val (.agg #[.int .i64 b1, .int .i64 b2]) :: .val (.pointer (some ⟨w.heap.size, 0, none⟩)) :: .val (.int .i64 a1) :: .val (.agg #[.int .u64 (L0 a1), .int .u64 (L1 a1), .int .u64 (L2 a1), .int .u64 (L3 a1), .int .u64 (L0 1), .int .u64 (L1 1), .int .u64 (L2 1), .int .u64 (L3 1)]) :: .val (.tuple #[.agg #[.int .u64 (L0 a2), .int .u64 (L1 a2), .int .u64 (L2 a2), .int .u64 (L3 a2), .int .u64 (L0 1), .int .u64 (L1 1), .int .u64 (L2 1), .int .u64 (L3 1)], .int .i64 0]) :: .val (.tuple #[.agg #[.int .u64 (L0 a2), .int .u64 (L1 a2), .int .u64 (L2 a2), .int .u64 (L3 a2), .int .u64 (L0 1), .int .u64 (L1 1), .int .u64 (L2 1), .int .u64 (L3 1)], .int .i64 0]) :: .val (.agg #[.int .u64 (L0 a2), .int .u64 (L1 a2), .int .u64 (L2 a2), .int .u64 (L3 a2), .int .u64 (L0 1), .int .u64 (L1 1), .int .u64 (L2 1), .int .u64 (L3 1)]) :: .val (.int .i64 0) :: .blk 36 8 :: .put 7 36 #[.int .u64 (L0 a2), .int .u64 (L1 a2), .int .u64 (L2 a2), .int .u64 (L3 a2), .int .u64 (L0 1), .int .u64 (L1 1), .int .u64 (L2 1), .int .u64 (L3 1)] :: .val (.int .i64 0) :: []) (by kernel_rfl) (by kernel_rfl) (Nat.le_refl _) ((by exact trivial))
        ⟨fun a w R => ld_P (R.slot 3 rfl) (R.keep ow3.drawn trivial) rfl rfl, fun a w R => ld_P (R.slot 4 rfl) (R.keep ow4.drawn trivial) rfl rfl, fun a w R => fa_P_0 (R.slot 3 rfl), fun a w R => ld_int (R.val 2) (R.keep ow3.drawn trivial) rfl, fun a w R => cl_t (enter_at Try.func20) (R.val 3) (Whole_any a1 (by omega) (by omega) _), fun a w R => cl_ttt (enter_at Try.func19) (R.val 0) (R.val 1) (R.val 4) (SA.out _), fun a w R => mv (R.val 5), fun a w R => ex0 (R.val 6), fun a w R => ex1 (R.val 6), fun a w R => al_R, fun a w R => sb_R (R.dep 9) (R.val 7), fun a w R => asg (R.val 8), trivial⟩ (fun act_ W2 I => ?_)
      obtain ⟨gb7, ew7, lw7, ow7⟩ := I.put 10 rfl rfl
      rw [I.act [(28, .agg #[.int .i64 a1, .int .i64 a2]), (29, .agg #[.int .i64 b1, .int .i64 b2]), (30, .pointer (some ⟨w.heap.size, 0, none⟩)), (31, .int .i64 a1), (32, .agg #[.int .u64 (L0 a1), .int .u64 (L1 a1), .int .u64 (L2 a1), .int .u64 (L3 a1), .int .u64 (L0 1), .int .u64 (L1 1), .int .u64 (L2 1), .int .u64 (L3 1)]), (33, .tuple #[.agg #[.int .u64 (L0 a2), .int .u64 (L1 a2), .int .u64 (L2 a2), .int .u64 (L3 a2), .int .u64 (L0 1), .int .u64 (L1 1), .int .u64 (L2 1), .int .u64 (L3 1)], .int .i64 0]), (27, .tuple #[.agg #[.int .u64 (L0 a2), .int .u64 (L1 a2), .int .u64 (L2 a2), .int .u64 (L3 a2), .int .u64 (L0 1), .int .u64 (L1 1), .int .u64 (L2 1), .int .u64 (L3 1)], .int .i64 0]), (34, .agg #[.int .u64 (L0 a2), .int .u64 (L1 a2), .int .u64 (L2 a2), .int .u64 (L3 a2), .int .u64 (L0 1), .int .u64 (L1 1), .int .u64 (L2 1), .int .u64 (L3 1)]), (35, .int .i64 0), (7, .pointer (some ⟨gb7, 0, none⟩)), (8, .int .i64 0)]
        ⟨I.val 0, I.val 1, I.val 2, I.val 3, I.val 4, I.val 5, I.val 6, I.val 7, I.val 8, ew7, I.val 11, trivial⟩ rfl]
      change W1.heap.size ≤ gb7 at lw7
      have sW2 : W1.heap.size ≤ W2.heap.size := I.below.size
      replace ow3 := I.keep ow3.drawn trivial
      replace ow4 := I.keep ow4.drawn trivial
      replace ow5 := I.keep ow5.drawn trivial
      replace ow16 := I.keep ow16.drawn trivial
      have hW2 : Below w.heap.size w W2 := then_ hW1.drew I.below hW1.size
      clear ew7
      clear I
      simp only [List.foldl_cons, List.foldl_nil, List.setIfInBounds_toArray, List.set_cons_zero, List.set_cons_succ]
      go_upto_region 4 with fail
      refine region_memo (B := W2.heap.size) (L := .val (.agg #[.int .i64 a1, .int .i64 a2]) :: .val (.agg #[.int .i64 b1, .int .i64 b2]) :: .val (.pointer (some ⟨(w.heap.size + 1), 0, none⟩)) :: .val (.int .i64 b1) :: .val (.agg #[.int .u64 (L0 b1), .int .u64 (L1 b1), .int .u64 (L2 b1), .int .u64 (L3 b1), .int .u64 (L0 1), .int .u64 (L1 1), .int .u64 (L2 1), .int .u64 (L3 1)]) :: .val (.tuple #[.agg #[.int .u64 (L0 b2), .int .u64 (L1 b2), .int .u64 (L2 b2), .int .u64 (L3 b2), .int .u64 (L0 1), .int .u64 (L1 1), .int .u64 (L2 1), .int .u64 (L3 1)], .int .i64 0]) :: .val (.tuple #[.agg #[.int .u64 (L0 b2), .int .u64 (L1 b2), .int .u64 (L2 b2), .int .u64 (L3 b2), .int .u64 (L0 1), .int .u64 (L1 1), .int .u64 (L2 1), .int .u64 (L3 1)], .int .i64 0]) :: .val (.agg #[.int .u64 (L0 b2), .int .u64 (L1 b2), .int .u64 (L2 b2), .int .u64 (L3 b2), .int .u64 (L0 1), .int .u64 (L1 1), .int .u64 (L2 1), .int .u64 (L3 1)]) :: .val (.int .i64 0) :: .blk 36 8 :: .put 9 36 #[.int .u64 (L0 b2), .int .u64 (L1 b2), .int .u64 (L2 b2), .int .u64 (L3 b2), .int .u64 (L0 1), .int .u64 (L1 1), .int .u64 (L2 1), .int .u64 (L3 1)] :: .val (.int .i64 0) :: []) (by kernel_rfl) (by kernel_rfl) (Nat.le_refl _) ((by exact trivial))
        ⟨fun a w R => ld_P (R.slot 3 rfl) (R.keep ow3.drawn trivial) rfl rfl, fun a w R => ld_P (R.slot 4 rfl) (R.keep ow4.drawn trivial) rfl rfl, fun a w R => fa_P_0 (R.slot 4 rfl), fun a w R => ld_int (R.val 2) (R.keep ow4.drawn trivial) rfl, fun a w R => cl_t (enter_at Try.func20) (R.val 3) (Whole_any b1 (by omega) (by omega) _), fun a w R => cl_ttt (enter_at Try.func19) (R.val 0) (R.val 1) (R.val 4) (SB.out _), fun a w R => mv (R.val 5), fun a w R => ex0 (R.val 6), fun a w R => ex1 (R.val 6), fun a w R => al_R, fun a w R => sb_R (R.dep 9) (R.val 7), fun a w R => asg (R.val 8), trivial⟩ (fun act_ W3 I => ?_)
      obtain ⟨gb9, ew9, lw9, ow9⟩ := I.put 10 rfl rfl
      rw [I.act [(37, .agg #[.int .i64 a1, .int .i64 a2]), (38, .agg #[.int .i64 b1, .int .i64 b2]), (39, .pointer (some ⟨(w.heap.size + 1), 0, none⟩)), (40, .int .i64 b1), (41, .agg #[.int .u64 (L0 b1), .int .u64 (L1 b1), .int .u64 (L2 b1), .int .u64 (L3 b1), .int .u64 (L0 1), .int .u64 (L1 1), .int .u64 (L2 1), .int .u64 (L3 1)]), (42, .tuple #[.agg #[.int .u64 (L0 b2), .int .u64 (L1 b2), .int .u64 (L2 b2), .int .u64 (L3 b2), .int .u64 (L0 1), .int .u64 (L1 1), .int .u64 (L2 1), .int .u64 (L3 1)], .int .i64 0]), (36, .tuple #[.agg #[.int .u64 (L0 b2), .int .u64 (L1 b2), .int .u64 (L2 b2), .int .u64 (L3 b2), .int .u64 (L0 1), .int .u64 (L1 1), .int .u64 (L2 1), .int .u64 (L3 1)], .int .i64 0]), (43, .agg #[.int .u64 (L0 b2), .int .u64 (L1 b2), .int .u64 (L2 b2), .int .u64 (L3 b2), .int .u64 (L0 1), .int .u64 (L1 1), .int .u64 (L2 1), .int .u64 (L3 1)]), (44, .int .i64 0), (9, .pointer (some ⟨gb9, 0, none⟩)), (10, .int .i64 0)]
        ⟨I.val 0, I.val 1, I.val 2, I.val 3, I.val 4, I.val 5, I.val 6, I.val 7, I.val 8, ew9, I.val 11, trivial⟩ rfl]
      change W2.heap.size ≤ gb9 at lw9
      have sW3 : W2.heap.size ≤ W3.heap.size := I.below.size
      replace ow3 := I.keep ow3.drawn trivial
      replace ow4 := I.keep ow4.drawn trivial
      replace ow5 := I.keep ow5.drawn trivial
      replace ow16 := I.keep ow16.drawn trivial
      replace ow7 := I.keep ow7.drawn trivial
      have hW3 : Below w.heap.size w W3 := then_ hW2.drew I.below hW2.size
      clear ew9
      clear I
      simp only [List.foldl_cons, List.foldl_nil, List.setIfInBounds_toArray, List.set_cons_zero, List.set_cons_succ]
      go_upto_region 5 with fail
      refine region_memo (B := W3.heap.size) (L := .val (.int .i64 0) :: .val (.bool false) :: .val (.bool false) :: .val (.int .i64 0) :: .val (.bool false) :: .val (.bool false) :: .val (.bool false) :: .val (.agg #[.int .u64 (L0 a2), .int .u64 (L1 a2), .int .u64 (L2 a2), .int .u64 (L3 a2), .int .u64 (L0 1), .int .u64 (L1 1), .int .u64 (L2 1), .int .u64 (L3 1)]) :: .val (.pointer (some ⟨w.heap.size, 1, none⟩)) :: .val (.int .i64 a2) :: .val (.agg #[.int .u64 (L0 a2), .int .u64 (L1 a2), .int .u64 (L2 a2), .int .u64 (L3 a2), .int .u64 (L0 1), .int .u64 (L1 1), .int .u64 (L2 1), .int .u64 (L3 1)]) :: .val (.bool false) :: .val (.bool false) :: .val (.bool false) :: .val (.agg #[.int .u64 (L0 b2), .int .u64 (L1 b2), .int .u64 (L2 b2), .int .u64 (L3 b2), .int .u64 (L0 1), .int .u64 (L1 1), .int .u64 (L2 1), .int .u64 (L3 1)]) :: .val (.pointer (some ⟨(w.heap.size + 1), 1, none⟩)) :: .val (.int .i64 b2) :: .val (.agg #[.int .u64 (L0 b2), .int .u64 (L1 b2), .int .u64 (L2 b2), .int .u64 (L3 b2), .int .u64 (L0 1), .int .u64 (L1 1), .int .u64 (L2 1), .int .u64 (L3 1)]) :: .val (.bool false) :: .val (.bool false) :: []) (by kernel_rfl) (by kernel_rfl) (Nat.le_refl _) ((by exact trivial))
        ⟨fun a w R => mv (R.slot 8 rfl), fun a w R => c_neq_tk (R.val 0) (Try.underlying37) (by decide), fun a w R => mv (R.val 1), fun a w R => mv (R.slot 10 rfl), fun a w R => c_neq_tk (R.val 3) (Try.underlying37) (by decide), fun a w R => pickn (R.val 2) (R.val 4), fun a w R => mv (R.val 5), fun a w R => ld_R (R.slot 7 rfl) (R.keep ow7.drawn trivial) rfl rfl rfl rfl rfl rfl rfl rfl, fun a w R => fa_P_1 (R.slot 3 rfl), fun a w R => ld_int (R.val 8) (R.keep ow3.drawn trivial) rfl, fun a w R => cl_t (enter_at Try.func20) (R.val 9) (Whole_any a2 (by omega) (by omega) _), fun a w R => (e_neq_R (R.val 7) (R.val 10) ((fun w => (eq_Ratio ⟨by omega, by omega⟩ ⟨by omega, by omega⟩ ⟨by decide, by decide⟩ ⟨by decide, by decide⟩ w).trans (by rw [EA.out])))), fun a w R => pickn (R.val 6) (R.val 11), fun a w R => mv (R.val 12), fun a w R => ld_R (R.slot 9 rfl) (R.keep ow9.drawn trivial) rfl rfl rfl rfl rfl rfl rfl rfl, fun a w R => fa_P_1 (R.slot 4 rfl), fun a w R => ld_int (R.val 15) (R.keep ow4.drawn trivial) rfl, fun a w R => cl_t (enter_at Try.func20) (R.val 16) (Whole_any b2 (by omega) (by omega) _), fun a w R => (e_neq_R (R.val 14) (R.val 17) ((fun w => (eq_Ratio ⟨by omega, by omega⟩ ⟨by omega, by omega⟩ ⟨by decide, by decide⟩ ⟨by decide, by decide⟩ w).trans (by rw [EB.out])))), fun a w R => pickn (R.val 13) (R.val 18), trivial⟩ (fun act_ W4 I => ?_)
      rw [I.act [(45, .int .i64 0), (46, .bool false), (47, .bool false), (48, .int .i64 0), (49, .bool false), (50, .bool false), (51, .bool false), (52, .agg #[.int .u64 (L0 a2), .int .u64 (L1 a2), .int .u64 (L2 a2), .int .u64 (L3 a2), .int .u64 (L0 1), .int .u64 (L1 1), .int .u64 (L2 1), .int .u64 (L3 1)]), (53, .pointer (some ⟨w.heap.size, 1, none⟩)), (54, .int .i64 a2), (55, .agg #[.int .u64 (L0 a2), .int .u64 (L1 a2), .int .u64 (L2 a2), .int .u64 (L3 a2), .int .u64 (L0 1), .int .u64 (L1 1), .int .u64 (L2 1), .int .u64 (L3 1)]), (56, .bool false), (57, .bool false), (58, .bool false), (59, .agg #[.int .u64 (L0 b2), .int .u64 (L1 b2), .int .u64 (L2 b2), .int .u64 (L3 b2), .int .u64 (L0 1), .int .u64 (L1 1), .int .u64 (L2 1), .int .u64 (L3 1)]), (60, .pointer (some ⟨(w.heap.size + 1), 1, none⟩)), (61, .int .i64 b2), (62, .agg #[.int .u64 (L0 b2), .int .u64 (L1 b2), .int .u64 (L2 b2), .int .u64 (L3 b2), .int .u64 (L0 1), .int .u64 (L1 1), .int .u64 (L2 1), .int .u64 (L3 1)]), (63, .bool false), (64, .bool false)]
        ⟨I.val 0, I.val 1, I.val 2, I.val 3, I.val 4, I.val 5, I.val 6, I.val 7, I.val 8, I.val 9, I.val 10, I.val 11, I.val 12, I.val 13, I.val 14, I.val 15, I.val 16, I.val 17, I.val 18, I.val 19, trivial⟩ rfl]
      have sW4 : W3.heap.size ≤ W4.heap.size := I.below.size
      replace ow3 := I.keep ow3.drawn trivial
      replace ow4 := I.keep ow4.drawn trivial
      replace ow5 := I.keep ow5.drawn trivial
      replace ow16 := I.keep ow16.drawn trivial
      replace ow7 := I.keep ow7.drawn trivial
      replace ow9 := I.keep ow9.drawn trivial
      have hW4 : Below w.heap.size w W4 := then_ hW3.drew I.below hW3.size
      clear I
      simp only [List.foldl_cons, List.foldl_nil, List.setIfInBounds_toArray, List.set_cons_zero, List.set_cons_succ]
      go_upto_region 7 with fail
      refine region_memo (B := W4.heap.size) (L := .val (.agg #[.int .i64 a1, .int .i64 a2]) :: .val (.agg #[.int .i64 b1, .int .i64 b2]) :: .val (.pointer (some ⟨(w.heap.size + 1 + 1), 0, none⟩)) :: .val (.int .i64 p1) :: .val (.agg #[.int .u64 (L0 p1), .int .u64 (L1 p1), .int .u64 (L2 p1), .int .u64 (L3 p1), .int .u64 (L0 1), .int .u64 (L1 1), .int .u64 (L2 1), .int .u64 (L3 1)]) :: .val (.tuple #[.agg #[.int .u64 (L0 r), .int .u64 (L1 r), .int .u64 (L2 r), .int .u64 (L3 r), .int .u64 (L0 s), .int .u64 (L1 s), .int .u64 (L2 s), .int .u64 (L3 s)], .int .i64 er]) :: .val (.tuple #[.agg #[.int .u64 (L0 r), .int .u64 (L1 r), .int .u64 (L2 r), .int .u64 (L3 r), .int .u64 (L0 s), .int .u64 (L1 s), .int .u64 (L2 s), .int .u64 (L3 s)], .int .i64 er]) :: .val (.agg #[.int .u64 (L0 r), .int .u64 (L1 r), .int .u64 (L2 r), .int .u64 (L3 r), .int .u64 (L0 s), .int .u64 (L1 s), .int .u64 (L2 s), .int .u64 (L3 s)]) :: .val (.int .i64 er) :: .blk 36 8 :: .put 11 36 #[.int .u64 (L0 r), .int .u64 (L1 r), .int .u64 (L2 r), .int .u64 (L3 r), .int .u64 (L0 s), .int .u64 (L1 s), .int .u64 (L2 s), .int .u64 (L3 s)] :: .val (.int .i64 er) :: []) (by kernel_rfl) (by kernel_rfl) (Nat.le_refl _) ((by exact trivial))
        ⟨fun a w R => ld_P (R.slot 3 rfl) (R.keep ow3.drawn trivial) rfl rfl, fun a w R => ld_P (R.slot 4 rfl) (R.keep ow4.drawn trivial) rfl rfl, fun a w R => fa_P_0 (R.slot 5 rfl), fun a w R => ld_int (R.val 2) (R.keep ow5.drawn trivial) rfl, fun a w R => cl_t (enter_at Try.func20) (R.val 3) (Whole_any p1 (by omega) (by omega) _), fun a w R => cl_ttt (enter_at Try.func19) (R.val 0) (R.val 1) (R.val 4) (SP.out _), fun a w R => mv (R.val 5), fun a w R => ex0 (R.val 6), fun a w R => ex1 (R.val 6), fun a w R => al_R, fun a w R => sb_R (R.dep 9) (R.val 7), fun a w R => asg (R.val 8), trivial⟩ (fun act_ W5 I => ?_)
      obtain ⟨gb11, ew11, lw11, ow11⟩ := I.put 10 rfl rfl
      rw [I.act [(66, .agg #[.int .i64 a1, .int .i64 a2]), (67, .agg #[.int .i64 b1, .int .i64 b2]), (68, .pointer (some ⟨(w.heap.size + 1 + 1), 0, none⟩)), (69, .int .i64 p1), (70, .agg #[.int .u64 (L0 p1), .int .u64 (L1 p1), .int .u64 (L2 p1), .int .u64 (L3 p1), .int .u64 (L0 1), .int .u64 (L1 1), .int .u64 (L2 1), .int .u64 (L3 1)]), (71, .tuple #[.agg #[.int .u64 (L0 r), .int .u64 (L1 r), .int .u64 (L2 r), .int .u64 (L3 r), .int .u64 (L0 s), .int .u64 (L1 s), .int .u64 (L2 s), .int .u64 (L3 s)], .int .i64 er]), (65, .tuple #[.agg #[.int .u64 (L0 r), .int .u64 (L1 r), .int .u64 (L2 r), .int .u64 (L3 r), .int .u64 (L0 s), .int .u64 (L1 s), .int .u64 (L2 s), .int .u64 (L3 s)], .int .i64 er]), (72, .agg #[.int .u64 (L0 r), .int .u64 (L1 r), .int .u64 (L2 r), .int .u64 (L3 r), .int .u64 (L0 s), .int .u64 (L1 s), .int .u64 (L2 s), .int .u64 (L3 s)]), (73, .int .i64 er), (11, .pointer (some ⟨gb11, 0, none⟩)), (12, .int .i64 er)]
        ⟨I.val 0, I.val 1, I.val 2, I.val 3, I.val 4, I.val 5, I.val 6, I.val 7, I.val 8, ew11, I.val 11, trivial⟩ rfl]
      change W4.heap.size ≤ gb11 at lw11
      have sW5 : W4.heap.size ≤ W5.heap.size := I.below.size
      replace ow3 := I.keep ow3.drawn trivial
      replace ow4 := I.keep ow4.drawn trivial
      replace ow5 := I.keep ow5.drawn trivial
      replace ow16 := I.keep ow16.drawn trivial
      replace ow7 := I.keep ow7.drawn trivial
      replace ow9 := I.keep ow9.drawn trivial
      have hW5 : Below w.heap.size w W5 := then_ hW4.drew I.below hW4.size
      clear ew11
      clear I
      simp only [List.foldl_cons, List.foldl_nil, List.setIfInBounds_toArray, List.set_cons_zero, List.set_cons_succ]
      rcases Bool.eq_false_or_eq_true ((er == 0)) with t3 | t3
      · have t3_ := Lib.hid t3
        clear t3
        go_upto_region 8 with fail
        refine region_memo_f (B := W5.heap.size) (L := .val (.int .i64 er) :: .val (.bool false) :: []) (by kernel_rfl) (Nat.le_refl _) ((by exact trivial))
          ⟨fun a w R => mv (R.slot 12 rfl), fun a w R => c_neq_tk (R.val 0) (Try.underlying37) (by rw [t3_.out]; rfl), trivial⟩ (fun act_ W6 I => ?_)
        rw [I.act [(74, .int .i64 er), (75, .bool false)]
          ⟨I.val 0, I.val 1, trivial⟩ rfl]
        have sW6 : W5.heap.size ≤ W6.heap.size := I.below.size
        replace ow3 := I.keep ow3 trivial
        replace ow4 := I.keep ow4 trivial
        replace ow5 := I.keep ow5 trivial
        replace ow16 := I.keep ow16 trivial
        replace ow7 := I.keep ow7 trivial
        replace ow9 := I.keep ow9 trivial
        replace ow11 := I.keep ow11 trivial
        have hW6 : Below w.heap.size w W6 := then_ hW5 I.below hW5.size
        clear I
        simp only [List.foldl_cons, List.foldl_nil, List.setIfInBounds_toArray, List.set_cons_zero, List.set_cons_succ]
        rcases Bool.eq_false_or_eq_true (decide (r = p2 ∧ s = 1)) with t4 | t4
        · have t4_ := Lib.hid t4
          clear t4
          rcases Bool.eq_false_or_eq_true (decide (p1 = a1 ∧ p2 = a2)) with t5 | t5
          · have t5_ := Lib.hid t5
            clear t5
            go_upto_region 10 with fail
            refine region_memo (B := W6.heap.size) (L := .val (.bool true) :: .val (.bool true) :: .val (.agg #[.int .u64 (L0 r), .int .u64 (L1 r), .int .u64 (L2 r), .int .u64 (L3 r), .int .u64 (L0 s), .int .u64 (L1 s), .int .u64 (L2 s), .int .u64 (L3 s)]) :: .val (.pointer (some ⟨(w.heap.size + 1 + 1), 1, none⟩)) :: .val (.int .i64 p2) :: .val (.agg #[.int .u64 (L0 p2), .int .u64 (L1 p2), .int .u64 (L2 p2), .int .u64 (L3 p2), .int .u64 (L0 1), .int .u64 (L1 1), .int .u64 (L2 1), .int .u64 (L3 1)]) :: .val (.bool true) :: .val (.agg #[.int .i64 p1, .int .i64 p2]) :: .val (.agg #[.int .i64 a1, .int .i64 a2]) :: .val (.bool true) :: .val (.bool true) :: .skip :: .skip :: .skip :: .val (.bool true) :: .val (.bool true) :: .skip :: .skip :: .skip :: .skip :: .val (.bool true) :: .val (.bool true) :: .val (.bool true) :: .val (.bool true) :: []) (by kernel_rfl) (by kernel_rfl) (Nat.le_refl _) ((by exact trivial))
              ⟨fun a w R => cl_0 (enter_at Try.func12)  (awake_any _), fun a w R => mv (R.val 0), fun a w R => ld_R (R.slot 11 rfl) (R.keep ow11.drawn trivial) rfl rfl rfl rfl rfl rfl rfl rfl, fun a w R => fa_P_1 (R.slot 5 rfl), fun a w R => ld_int (R.val 3) (R.keep ow5.drawn trivial) rfl, fun a w R => cl_t (enter_at Try.func20) (R.val 4) (Whole_any p2 (by omega) (by omega) _), fun a w R => (e_eql_R (R.val 2) (R.val 5) ((fun w => (eq_Ratio fr ⟨by omega, by omega⟩ fs ⟨by decide, by decide⟩ w).trans (by rw [t4_.out])))), fun a w R => ld_P (R.slot 5 rfl) (R.keep ow5.drawn trivial) rfl rfl, fun a w R => ld_P (R.slot 3 rfl) (R.keep ow3.drawn trivial) rfl rfl, fun a w R => (e_eql_P (R.val 7) (R.val 8) ((fun w => (eq_Point _ _ _ _ w).trans (by rw [t5_.out])))), fun a w R => mv (R.val 9), fun a w R => True.intro, fun a w R => True.intro, fun a w R => True.intro, fun a w R => picko (R.val 10) (R.goneS 13), fun a w R => mv (R.val 14), fun a w R => True.intro, fun a w R => True.intro, fun a w R => True.intro, fun a w R => True.intro, fun a w R => picko (R.val 15) (R.goneS 19), fun a w R => cb_eql_tt (R.val 6) (R.val 20) rfl, fun a w R => pickt (R.val 1) (R.val 21), fun a w R => asg (R.val 22), trivial⟩ (fun act_ W7 I => ?_)
            rw [I.act [(81, .bool true), (82, .bool true), (83, .agg #[.int .u64 (L0 r), .int .u64 (L1 r), .int .u64 (L2 r), .int .u64 (L3 r), .int .u64 (L0 s), .int .u64 (L1 s), .int .u64 (L2 s), .int .u64 (L3 s)]), (84, .pointer (some ⟨(w.heap.size + 1 + 1), 1, none⟩)), (85, .int .i64 p2), (86, .agg #[.int .u64 (L0 p2), .int .u64 (L1 p2), .int .u64 (L2 p2), .int .u64 (L3 p2), .int .u64 (L0 1), .int .u64 (L1 1), .int .u64 (L2 1), .int .u64 (L3 1)]), (87, .bool true), (88, .agg #[.int .i64 p1, .int .i64 p2]), (89, .agg #[.int .i64 a1, .int .i64 a2]), (90, .bool true), (91, .bool true), (92, undef), (93, undef), (94, undef), (95, .bool true), (96, .bool true), (97, undef), (98, undef), (99, undef), (100, undef), (101, .bool true), (102, .bool true), (103, .bool true), (6, .bool true)]
              ⟨I.val 0, I.val 1, I.val 2, I.val 3, I.val 4, I.val 5, I.val 6, I.val 7, I.val 8, I.val 9, I.val 10, I.gone 11, I.gone 12, I.gone 13, I.val 14, I.val 15, I.gone 16, I.gone 17, I.gone 18, I.gone 19, I.val 20, I.val 21, I.val 22, I.val 23, trivial⟩ rfl]
            have sW7 : W6.heap.size ≤ W7.heap.size := I.below.size
            replace ow3 := I.keep ow3.drawn trivial
            replace ow4 := I.keep ow4.drawn trivial
            replace ow5 := I.keep ow5.drawn trivial
            replace ow16 := I.keep ow16.drawn trivial
            replace ow7 := I.keep ow7.drawn trivial
            replace ow9 := I.keep ow9.drawn trivial
            replace ow11 := I.keep ow11.drawn trivial
            have hW7 : Below w.heap.size w W7 := then_ hW6.drew I.below hW6.size
            clear I
            simp only [List.foldl_cons, List.foldl_nil, List.setIfInBounds_toArray, List.set_cons_zero, List.set_cons_succ]
            clear ow3 ow4 ow5 ow16 ow7 ow9 ow11
            go_wp2
            try simp only [setCell_drawn]
            refine bodyPost_ret (by first | (simp [results, Try.results5, go_sem]; done) | (simp [results, Try.results5, go_sem]; rfl)) rfl ⟨?_, hW7⟩
            rfl
          · have t5_ := Lib.hid t5
            clear t5
            rcases Bool.eq_false_or_eq_true (decide (p1 = b1 ∧ p2 = b2)) with t6 | t6
            · have t6_ := Lib.hid t6
              clear t6
              go_upto_region 10 with fail
              refine region_memo (B := W6.heap.size) (L := .val (.bool true) :: .val (.bool true) :: .val (.agg #[.int .u64 (L0 r), .int .u64 (L1 r), .int .u64 (L2 r), .int .u64 (L3 r), .int .u64 (L0 s), .int .u64 (L1 s), .int .u64 (L2 s), .int .u64 (L3 s)]) :: .val (.pointer (some ⟨(w.heap.size + 1 + 1), 1, none⟩)) :: .val (.int .i64 p2) :: .val (.agg #[.int .u64 (L0 p2), .int .u64 (L1 p2), .int .u64 (L2 p2), .int .u64 (L3 p2), .int .u64 (L0 1), .int .u64 (L1 1), .int .u64 (L2 1), .int .u64 (L3 1)]) :: .val (.bool true) :: .val (.agg #[.int .i64 p1, .int .i64 p2]) :: .val (.agg #[.int .i64 a1, .int .i64 a2]) :: .val (.bool false) :: .val (.bool false) :: .val (.agg #[.int .i64 p1, .int .i64 p2]) :: .val (.agg #[.int .i64 b1, .int .i64 b2]) :: .val (.bool true) :: .val (.bool true) :: .val (.bool true) :: .skip :: .skip :: .skip :: .skip :: .val (.bool true) :: .val (.bool true) :: .val (.bool true) :: .val (.bool true) :: []) (by kernel_rfl) (by kernel_rfl) (Nat.le_refl _) ((by exact trivial))
                ⟨fun a w R => cl_0 (enter_at Try.func12)  (awake_any _), fun a w R => mv (R.val 0), fun a w R => ld_R (R.slot 11 rfl) (R.keep ow11.drawn trivial) rfl rfl rfl rfl rfl rfl rfl rfl, fun a w R => fa_P_1 (R.slot 5 rfl), fun a w R => ld_int (R.val 3) (R.keep ow5.drawn trivial) rfl, fun a w R => cl_t (enter_at Try.func20) (R.val 4) (Whole_any p2 (by omega) (by omega) _), fun a w R => (e_eql_R (R.val 2) (R.val 5) ((fun w => (eq_Ratio fr ⟨by omega, by omega⟩ fs ⟨by decide, by decide⟩ w).trans (by rw [t4_.out])))), fun a w R => ld_P (R.slot 5 rfl) (R.keep ow5.drawn trivial) rfl rfl, fun a w R => ld_P (R.slot 3 rfl) (R.keep ow3.drawn trivial) rfl rfl, fun a w R => (e_eql_P (R.val 7) (R.val 8) ((fun w => (eq_Point _ _ _ _ w).trans (by rw [t5_.out])))), fun a w R => mv (R.val 9), fun a w R => ld_P (R.slot 5 rfl) (R.keep ow5.drawn trivial) rfl rfl, fun a w R => ld_P (R.slot 4 rfl) (R.keep ow4.drawn trivial) rfl rfl, fun a w R => (e_eql_P (R.val 11) (R.val 12) ((fun w => (eq_Point _ _ _ _ w).trans (by rw [t6_.out])))), fun a w R => pickn (R.val 10) (R.val 13), fun a w R => mv (R.val 14), fun a w R => True.intro, fun a w R => True.intro, fun a w R => True.intro, fun a w R => True.intro, fun a w R => picko (R.val 15) (R.goneS 19), fun a w R => cb_eql_tt (R.val 6) (R.val 20) rfl, fun a w R => pickt (R.val 1) (R.val 21), fun a w R => asg (R.val 22), trivial⟩ (fun act_ W7 I => ?_)
              rw [I.act [(81, .bool true), (82, .bool true), (83, .agg #[.int .u64 (L0 r), .int .u64 (L1 r), .int .u64 (L2 r), .int .u64 (L3 r), .int .u64 (L0 s), .int .u64 (L1 s), .int .u64 (L2 s), .int .u64 (L3 s)]), (84, .pointer (some ⟨(w.heap.size + 1 + 1), 1, none⟩)), (85, .int .i64 p2), (86, .agg #[.int .u64 (L0 p2), .int .u64 (L1 p2), .int .u64 (L2 p2), .int .u64 (L3 p2), .int .u64 (L0 1), .int .u64 (L1 1), .int .u64 (L2 1), .int .u64 (L3 1)]), (87, .bool true), (88, .agg #[.int .i64 p1, .int .i64 p2]), (89, .agg #[.int .i64 a1, .int .i64 a2]), (90, .bool false), (91, .bool false), (92, .agg #[.int .i64 p1, .int .i64 p2]), (93, .agg #[.int .i64 b1, .int .i64 b2]), (94, .bool true), (95, .bool true), (96, .bool true), (97, undef), (98, undef), (99, undef), (100, undef), (101, .bool true), (102, .bool true), (103, .bool true), (6, .bool true)]
                ⟨I.val 0, I.val 1, I.val 2, I.val 3, I.val 4, I.val 5, I.val 6, I.val 7, I.val 8, I.val 9, I.val 10, I.val 11, I.val 12, I.val 13, I.val 14, I.val 15, I.gone 16, I.gone 17, I.gone 18, I.gone 19, I.val 20, I.val 21, I.val 22, I.val 23, trivial⟩ rfl]
              have sW7 : W6.heap.size ≤ W7.heap.size := I.below.size
              replace ow3 := I.keep ow3.drawn trivial
              replace ow4 := I.keep ow4.drawn trivial
              replace ow5 := I.keep ow5.drawn trivial
              replace ow16 := I.keep ow16.drawn trivial
              replace ow7 := I.keep ow7.drawn trivial
              replace ow9 := I.keep ow9.drawn trivial
              replace ow11 := I.keep ow11.drawn trivial
              have hW7 : Below w.heap.size w W7 := then_ hW6.drew I.below hW6.size
              clear I
              simp only [List.foldl_cons, List.foldl_nil, List.setIfInBounds_toArray, List.set_cons_zero, List.set_cons_succ]
              clear ow3 ow4 ow5 ow16 ow7 ow9 ow11
              go_wp2
              try simp only [setCell_drawn]
              refine bodyPost_ret (by first | (simp [results, Try.results5, go_sem]; done) | (simp [results, Try.results5, go_sem]; rfl)) rfl ⟨?_, hW7⟩
              rfl
            · have t6_ := Lib.hid t6
              clear t6
              rcases Bool.eq_false_or_eq_true (onB p1 p2 a1 a2 b1 b2) with t7 | t7
              · have t7_ := Lib.hid t7
                clear t7
                go_upto_region 10 with fail
                refine region_memo (B := W6.heap.size) (L := .val (.bool true) :: .val (.bool true) :: .val (.agg #[.int .u64 (L0 r), .int .u64 (L1 r), .int .u64 (L2 r), .int .u64 (L3 r), .int .u64 (L0 s), .int .u64 (L1 s), .int .u64 (L2 s), .int .u64 (L3 s)]) :: .val (.pointer (some ⟨(w.heap.size + 1 + 1), 1, none⟩)) :: .val (.int .i64 p2) :: .val (.agg #[.int .u64 (L0 p2), .int .u64 (L1 p2), .int .u64 (L2 p2), .int .u64 (L3 p2), .int .u64 (L0 1), .int .u64 (L1 1), .int .u64 (L2 1), .int .u64 (L3 1)]) :: .val (.bool true) :: .val (.agg #[.int .i64 p1, .int .i64 p2]) :: .val (.agg #[.int .i64 a1, .int .i64 a2]) :: .val (.bool false) :: .val (.bool false) :: .val (.agg #[.int .i64 p1, .int .i64 p2]) :: .val (.agg #[.int .i64 b1, .int .i64 b2]) :: .val (.bool false) :: .val (.bool false) :: .val (.bool false) :: .val (.agg #[.int .i64 p1, .int .i64 p2]) :: .val (.agg #[.int .i64 a1, .int .i64 a2]) :: .val (.agg #[.int .i64 b1, .int .i64 b2]) :: .val (.bool true) :: .val (.bool true) :: .val (.bool true) :: .val (.bool true) :: .val (.bool true) :: []) (by kernel_rfl) (by kernel_rfl) (Nat.le_refl _) ((by exact trivial))
                  ⟨fun a w R => cl_0 (enter_at Try.func12)  (awake_any _), fun a w R => mv (R.val 0), fun a w R => ld_R (R.slot 11 rfl) (R.keep ow11.drawn trivial) rfl rfl rfl rfl rfl rfl rfl rfl, fun a w R => fa_P_1 (R.slot 5 rfl), fun a w R => ld_int (R.val 3) (R.keep ow5.drawn trivial) rfl, fun a w R => cl_t (enter_at Try.func20) (R.val 4) (Whole_any p2 (by omega) (by omega) _), fun a w R => (e_eql_R (R.val 2) (R.val 5) ((fun w => (eq_Ratio fr ⟨by omega, by omega⟩ fs ⟨by decide, by decide⟩ w).trans (by rw [t4_.out])))), fun a w R => ld_P (R.slot 5 rfl) (R.keep ow5.drawn trivial) rfl rfl, fun a w R => ld_P (R.slot 3 rfl) (R.keep ow3.drawn trivial) rfl rfl, fun a w R => (e_eql_P (R.val 7) (R.val 8) ((fun w => (eq_Point _ _ _ _ w).trans (by rw [t5_.out])))), fun a w R => mv (R.val 9), fun a w R => ld_P (R.slot 5 rfl) (R.keep ow5.drawn trivial) rfl rfl, fun a w R => ld_P (R.slot 4 rfl) (R.keep ow4.drawn trivial) rfl rfl, fun a w R => (e_eql_P (R.val 11) (R.val 12) ((fun w => (eq_Point _ _ _ _ w).trans (by rw [t6_.out])))), fun a w R => pickn (R.val 10) (R.val 13), fun a w R => mv (R.val 14), fun a w R => ld_P (R.slot 5 rfl) (R.keep ow5.drawn trivial) rfl rfl, fun a w R => ld_P (R.slot 3 rfl) (R.keep ow3.drawn trivial) rfl rfl, fun a w R => ld_P (R.slot 4 rfl) (R.keep ow4.drawn trivial) rfl rfl, fun a w R => cl_ttt (enter_at Try.func16) (R.val 16) (R.val 17) (R.val 18) (On_is t7_.out _), fun a w R => pickn (R.val 15) (R.val 19), fun a w R => cb_eql_tt (R.val 6) (R.val 20) rfl, fun a w R => pickt (R.val 1) (R.val 21), fun a w R => asg (R.val 22), trivial⟩ (fun act_ W7 I => ?_)
                rw [I.act [(81, .bool true), (82, .bool true), (83, .agg #[.int .u64 (L0 r), .int .u64 (L1 r), .int .u64 (L2 r), .int .u64 (L3 r), .int .u64 (L0 s), .int .u64 (L1 s), .int .u64 (L2 s), .int .u64 (L3 s)]), (84, .pointer (some ⟨(w.heap.size + 1 + 1), 1, none⟩)), (85, .int .i64 p2), (86, .agg #[.int .u64 (L0 p2), .int .u64 (L1 p2), .int .u64 (L2 p2), .int .u64 (L3 p2), .int .u64 (L0 1), .int .u64 (L1 1), .int .u64 (L2 1), .int .u64 (L3 1)]), (87, .bool true), (88, .agg #[.int .i64 p1, .int .i64 p2]), (89, .agg #[.int .i64 a1, .int .i64 a2]), (90, .bool false), (91, .bool false), (92, .agg #[.int .i64 p1, .int .i64 p2]), (93, .agg #[.int .i64 b1, .int .i64 b2]), (94, .bool false), (95, .bool false), (96, .bool false), (97, .agg #[.int .i64 p1, .int .i64 p2]), (98, .agg #[.int .i64 a1, .int .i64 a2]), (99, .agg #[.int .i64 b1, .int .i64 b2]), (100, .bool true), (101, .bool true), (102, .bool true), (103, .bool true), (6, .bool true)]
                  ⟨I.val 0, I.val 1, I.val 2, I.val 3, I.val 4, I.val 5, I.val 6, I.val 7, I.val 8, I.val 9, I.val 10, I.val 11, I.val 12, I.val 13, I.val 14, I.val 15, I.val 16, I.val 17, I.val 18, I.val 19, I.val 20, I.val 21, I.val 22, I.val 23, trivial⟩ rfl]
                have sW7 : W6.heap.size ≤ W7.heap.size := I.below.size
                replace ow3 := I.keep ow3.drawn trivial
                replace ow4 := I.keep ow4.drawn trivial
                replace ow5 := I.keep ow5.drawn trivial
                replace ow16 := I.keep ow16.drawn trivial
                replace ow7 := I.keep ow7.drawn trivial
                replace ow9 := I.keep ow9.drawn trivial
                replace ow11 := I.keep ow11.drawn trivial
                have hW7 : Below w.heap.size w W7 := then_ hW6.drew I.below hW6.size
                clear I
                simp only [List.foldl_cons, List.foldl_nil, List.setIfInBounds_toArray, List.set_cons_zero, List.set_cons_succ]
                clear ow3 ow4 ow5 ow16 ow7 ow9 ow11
                go_wp2
                try simp only [setCell_drawn]
                refine bodyPost_ret (by first | (simp [results, Try.results5, go_sem]; done) | (simp [results, Try.results5, go_sem]; rfl)) rfl ⟨?_, hW7⟩
                rfl
              · have t7_ := Lib.hid t7
                clear t7
                go_upto_region 10 with fail
                refine region_memo (B := W6.heap.size) (L := .val (.bool true) :: .val (.bool true) :: .val (.agg #[.int .u64 (L0 r), .int .u64 (L1 r), .int .u64 (L2 r), .int .u64 (L3 r), .int .u64 (L0 s), .int .u64 (L1 s), .int .u64 (L2 s), .int .u64 (L3 s)]) :: .val (.pointer (some ⟨(w.heap.size + 1 + 1), 1, none⟩)) :: .val (.int .i64 p2) :: .val (.agg #[.int .u64 (L0 p2), .int .u64 (L1 p2), .int .u64 (L2 p2), .int .u64 (L3 p2), .int .u64 (L0 1), .int .u64 (L1 1), .int .u64 (L2 1), .int .u64 (L3 1)]) :: .val (.bool true) :: .val (.agg #[.int .i64 p1, .int .i64 p2]) :: .val (.agg #[.int .i64 a1, .int .i64 a2]) :: .val (.bool false) :: .val (.bool false) :: .val (.agg #[.int .i64 p1, .int .i64 p2]) :: .val (.agg #[.int .i64 b1, .int .i64 b2]) :: .val (.bool false) :: .val (.bool false) :: .val (.bool false) :: .val (.agg #[.int .i64 p1, .int .i64 p2]) :: .val (.agg #[.int .i64 a1, .int .i64 a2]) :: .val (.agg #[.int .i64 b1, .int .i64 b2]) :: .val (.bool false) :: .val (.bool false) :: .val (.bool false) :: .val (.bool false) :: .val (.bool false) :: []) (by kernel_rfl) (by kernel_rfl) (Nat.le_refl _) ((by exact trivial))
                  ⟨fun a w R => cl_0 (enter_at Try.func12)  (awake_any _), fun a w R => mv (R.val 0), fun a w R => ld_R (R.slot 11 rfl) (R.keep ow11.drawn trivial) rfl rfl rfl rfl rfl rfl rfl rfl, fun a w R => fa_P_1 (R.slot 5 rfl), fun a w R => ld_int (R.val 3) (R.keep ow5.drawn trivial) rfl, fun a w R => cl_t (enter_at Try.func20) (R.val 4) (Whole_any p2 (by omega) (by omega) _), fun a w R => (e_eql_R (R.val 2) (R.val 5) ((fun w => (eq_Ratio fr ⟨by omega, by omega⟩ fs ⟨by decide, by decide⟩ w).trans (by rw [t4_.out])))), fun a w R => ld_P (R.slot 5 rfl) (R.keep ow5.drawn trivial) rfl rfl, fun a w R => ld_P (R.slot 3 rfl) (R.keep ow3.drawn trivial) rfl rfl, fun a w R => (e_eql_P (R.val 7) (R.val 8) ((fun w => (eq_Point _ _ _ _ w).trans (by rw [t5_.out])))), fun a w R => mv (R.val 9), fun a w R => ld_P (R.slot 5 rfl) (R.keep ow5.drawn trivial) rfl rfl, fun a w R => ld_P (R.slot 4 rfl) (R.keep ow4.drawn trivial) rfl rfl, fun a w R => (e_eql_P (R.val 11) (R.val 12) ((fun w => (eq_Point _ _ _ _ w).trans (by rw [t6_.out])))), fun a w R => pickn (R.val 10) (R.val 13), fun a w R => mv (R.val 14), fun a w R => ld_P (R.slot 5 rfl) (R.keep ow5.drawn trivial) rfl rfl, fun a w R => ld_P (R.slot 3 rfl) (R.keep ow3.drawn trivial) rfl rfl, fun a w R => ld_P (R.slot 4 rfl) (R.keep ow4.drawn trivial) rfl rfl, fun a w R => cl_ttt (enter_at Try.func16) (R.val 16) (R.val 17) (R.val 18) (On_is t7_.out _), fun a w R => pickn (R.val 15) (R.val 19), fun a w R => cb_eql_tt (R.val 6) (R.val 20) rfl, fun a w R => pickt (R.val 1) (R.val 21), fun a w R => asg (R.val 22), trivial⟩ (fun act_ W7 I => ?_)
                rw [I.act [(81, .bool true), (82, .bool true), (83, .agg #[.int .u64 (L0 r), .int .u64 (L1 r), .int .u64 (L2 r), .int .u64 (L3 r), .int .u64 (L0 s), .int .u64 (L1 s), .int .u64 (L2 s), .int .u64 (L3 s)]), (84, .pointer (some ⟨(w.heap.size + 1 + 1), 1, none⟩)), (85, .int .i64 p2), (86, .agg #[.int .u64 (L0 p2), .int .u64 (L1 p2), .int .u64 (L2 p2), .int .u64 (L3 p2), .int .u64 (L0 1), .int .u64 (L1 1), .int .u64 (L2 1), .int .u64 (L3 1)]), (87, .bool true), (88, .agg #[.int .i64 p1, .int .i64 p2]), (89, .agg #[.int .i64 a1, .int .i64 a2]), (90, .bool false), (91, .bool false), (92, .agg #[.int .i64 p1, .int .i64 p2]), (93, .agg #[.int .i64 b1, .int .i64 b2]), (94, .bool false), (95, .bool false), (96, .bool false), (97, .agg #[.int .i64 p1, .int .i64 p2]), (98, .agg #[.int .i64 a1, .int .i64 a2]), (99, .agg #[.int .i64 b1, .int .i64 b2]), (100, .bool false), (101, .bool false), (102, .bool false), (103, .bool false), (6, .bool false)]
                  ⟨I.val 0, I.val 1, I.val 2, I.val 3, I.val 4, I.val 5, I.val 6, I.val 7, I.val 8, I.val 9, I.val 10, I.val 11, I.val 12, I.val 13, I.val 14, I.val 15, I.val 16, I.val 17, I.val 18, I.val 19, I.val 20, I.val 21, I.val 22, I.val 23, trivial⟩ rfl]
                have sW7 : W6.heap.size ≤ W7.heap.size := I.below.size
                replace ow3 := I.keep ow3.drawn trivial
                replace ow4 := I.keep ow4.drawn trivial
                replace ow5 := I.keep ow5.drawn trivial
                replace ow16 := I.keep ow16.drawn trivial
                replace ow7 := I.keep ow7.drawn trivial
                replace ow9 := I.keep ow9.drawn trivial
                replace ow11 := I.keep ow11.drawn trivial
                have hW7 : Below w.heap.size w W7 := then_ hW6.drew I.below hW6.size
                clear I
                simp only [List.foldl_cons, List.foldl_nil, List.setIfInBounds_toArray, List.set_cons_zero, List.set_cons_succ]
                clear ow3 ow4 ow5 ow16 ow7 ow9 ow11
                go_wp2
                try simp only [setCell_drawn]
                refine bodyPost_ret (by first | (simp [results, Try.results5, go_sem]; done) | (simp [results, Try.results5, go_sem]; rfl)) rfl ⟨?_, hW7⟩
                exfalso; have h0_ := t1_.out; have h1_ := t2_.out; have h2_ := t3_.out; have h3_ := t4_.out; have h4_ := t5_.out; have h5_ := t6_.out; have h6_ := t7_.out; have hz_ := HZ.out; simp at *; grind
        · have t4_ := Lib.hid t4
          clear t4
          rcases Bool.eq_false_or_eq_true (decide (p1 = a1 ∧ p2 = a2)) with t8 | t8
          · have t8_ := Lib.hid t8
            clear t8
            go_upto_region 10 with fail
            refine region_memo (B := W6.heap.size) (L := .val (.bool true) :: .val (.bool true) :: .val (.agg #[.int .u64 (L0 r), .int .u64 (L1 r), .int .u64 (L2 r), .int .u64 (L3 r), .int .u64 (L0 s), .int .u64 (L1 s), .int .u64 (L2 s), .int .u64 (L3 s)]) :: .val (.pointer (some ⟨(w.heap.size + 1 + 1), 1, none⟩)) :: .val (.int .i64 p2) :: .val (.agg #[.int .u64 (L0 p2), .int .u64 (L1 p2), .int .u64 (L2 p2), .int .u64 (L3 p2), .int .u64 (L0 1), .int .u64 (L1 1), .int .u64 (L2 1), .int .u64 (L3 1)]) :: .val (.bool false) :: .val (.agg #[.int .i64 p1, .int .i64 p2]) :: .val (.agg #[.int .i64 a1, .int .i64 a2]) :: .val (.bool true) :: .val (.bool true) :: .skip :: .skip :: .skip :: .val (.bool true) :: .val (.bool true) :: .skip :: .skip :: .skip :: .skip :: .val (.bool true) :: .val (.bool false) :: .val (.bool false) :: .val (.bool false) :: []) (by kernel_rfl) (by kernel_rfl) (Nat.le_refl _) ((by exact trivial))
              ⟨fun a w R => cl_0 (enter_at Try.func12)  (awake_any _), fun a w R => mv (R.val 0), fun a w R => ld_R (R.slot 11 rfl) (R.keep ow11.drawn trivial) rfl rfl rfl rfl rfl rfl rfl rfl, fun a w R => fa_P_1 (R.slot 5 rfl), fun a w R => ld_int (R.val 3) (R.keep ow5.drawn trivial) rfl, fun a w R => cl_t (enter_at Try.func20) (R.val 4) (Whole_any p2 (by omega) (by omega) _), fun a w R => (e_eql_R (R.val 2) (R.val 5) ((fun w => (eq_Ratio fr ⟨by omega, by omega⟩ fs ⟨by decide, by decide⟩ w).trans (by rw [t4_.out])))), fun a w R => ld_P (R.slot 5 rfl) (R.keep ow5.drawn trivial) rfl rfl, fun a w R => ld_P (R.slot 3 rfl) (R.keep ow3.drawn trivial) rfl rfl, fun a w R => (e_eql_P (R.val 7) (R.val 8) ((fun w => (eq_Point _ _ _ _ w).trans (by rw [t8_.out])))), fun a w R => mv (R.val 9), fun a w R => True.intro, fun a w R => True.intro, fun a w R => True.intro, fun a w R => picko (R.val 10) (R.goneS 13), fun a w R => mv (R.val 14), fun a w R => True.intro, fun a w R => True.intro, fun a w R => True.intro, fun a w R => True.intro, fun a w R => picko (R.val 15) (R.goneS 19), fun a w R => cb_eql_tt (R.val 6) (R.val 20) rfl, fun a w R => pickt (R.val 1) (R.val 21), fun a w R => asg (R.val 22), trivial⟩ (fun act_ W7 I => ?_)
            rw [I.act [(81, .bool true), (82, .bool true), (83, .agg #[.int .u64 (L0 r), .int .u64 (L1 r), .int .u64 (L2 r), .int .u64 (L3 r), .int .u64 (L0 s), .int .u64 (L1 s), .int .u64 (L2 s), .int .u64 (L3 s)]), (84, .pointer (some ⟨(w.heap.size + 1 + 1), 1, none⟩)), (85, .int .i64 p2), (86, .agg #[.int .u64 (L0 p2), .int .u64 (L1 p2), .int .u64 (L2 p2), .int .u64 (L3 p2), .int .u64 (L0 1), .int .u64 (L1 1), .int .u64 (L2 1), .int .u64 (L3 1)]), (87, .bool false), (88, .agg #[.int .i64 p1, .int .i64 p2]), (89, .agg #[.int .i64 a1, .int .i64 a2]), (90, .bool true), (91, .bool true), (92, undef), (93, undef), (94, undef), (95, .bool true), (96, .bool true), (97, undef), (98, undef), (99, undef), (100, undef), (101, .bool true), (102, .bool false), (103, .bool false), (6, .bool false)]
              ⟨I.val 0, I.val 1, I.val 2, I.val 3, I.val 4, I.val 5, I.val 6, I.val 7, I.val 8, I.val 9, I.val 10, I.gone 11, I.gone 12, I.gone 13, I.val 14, I.val 15, I.gone 16, I.gone 17, I.gone 18, I.gone 19, I.val 20, I.val 21, I.val 22, I.val 23, trivial⟩ rfl]
            have sW7 : W6.heap.size ≤ W7.heap.size := I.below.size
            replace ow3 := I.keep ow3.drawn trivial
            replace ow4 := I.keep ow4.drawn trivial
            replace ow5 := I.keep ow5.drawn trivial
            replace ow16 := I.keep ow16.drawn trivial
            replace ow7 := I.keep ow7.drawn trivial
            replace ow9 := I.keep ow9.drawn trivial
            replace ow11 := I.keep ow11.drawn trivial
            have hW7 : Below w.heap.size w W7 := then_ hW6.drew I.below hW6.size
            clear I
            simp only [List.foldl_cons, List.foldl_nil, List.setIfInBounds_toArray, List.set_cons_zero, List.set_cons_succ]
            clear ow3 ow4 ow5 ow16 ow7 ow9 ow11
            go_wp2
            try simp only [setCell_drawn]
            refine bodyPost_ret (by first | (simp [results, Try.results5, go_sem]; done) | (simp [results, Try.results5, go_sem]; rfl)) rfl ⟨?_, hW7⟩
            exfalso; have h0_ := t1_.out; have h1_ := t2_.out; have h2_ := t3_.out; have h3_ := t4_.out; have h4_ := t8_.out; have hz_ := HZ.out; simp at *; grind
          · have t8_ := Lib.hid t8
            clear t8
            rcases Bool.eq_false_or_eq_true (decide (p1 = b1 ∧ p2 = b2)) with t9 | t9
            · have t9_ := Lib.hid t9
              clear t9
              go_upto_region 10 with fail
              refine region_memo (B := W6.heap.size) (L := .val (.bool true) :: .val (.bool true) :: .val (.agg #[.int .u64 (L0 r), .int .u64 (L1 r), .int .u64 (L2 r), .int .u64 (L3 r), .int .u64 (L0 s), .int .u64 (L1 s), .int .u64 (L2 s), .int .u64 (L3 s)]) :: .val (.pointer (some ⟨(w.heap.size + 1 + 1), 1, none⟩)) :: .val (.int .i64 p2) :: .val (.agg #[.int .u64 (L0 p2), .int .u64 (L1 p2), .int .u64 (L2 p2), .int .u64 (L3 p2), .int .u64 (L0 1), .int .u64 (L1 1), .int .u64 (L2 1), .int .u64 (L3 1)]) :: .val (.bool false) :: .val (.agg #[.int .i64 p1, .int .i64 p2]) :: .val (.agg #[.int .i64 a1, .int .i64 a2]) :: .val (.bool false) :: .val (.bool false) :: .val (.agg #[.int .i64 p1, .int .i64 p2]) :: .val (.agg #[.int .i64 b1, .int .i64 b2]) :: .val (.bool true) :: .val (.bool true) :: .val (.bool true) :: .skip :: .skip :: .skip :: .skip :: .val (.bool true) :: .val (.bool false) :: .val (.bool false) :: .val (.bool false) :: []) (by kernel_rfl) (by kernel_rfl) (Nat.le_refl _) ((by exact trivial))
                ⟨fun a w R => cl_0 (enter_at Try.func12)  (awake_any _), fun a w R => mv (R.val 0), fun a w R => ld_R (R.slot 11 rfl) (R.keep ow11.drawn trivial) rfl rfl rfl rfl rfl rfl rfl rfl, fun a w R => fa_P_1 (R.slot 5 rfl), fun a w R => ld_int (R.val 3) (R.keep ow5.drawn trivial) rfl, fun a w R => cl_t (enter_at Try.func20) (R.val 4) (Whole_any p2 (by omega) (by omega) _), fun a w R => (e_eql_R (R.val 2) (R.val 5) ((fun w => (eq_Ratio fr ⟨by omega, by omega⟩ fs ⟨by decide, by decide⟩ w).trans (by rw [t4_.out])))), fun a w R => ld_P (R.slot 5 rfl) (R.keep ow5.drawn trivial) rfl rfl, fun a w R => ld_P (R.slot 3 rfl) (R.keep ow3.drawn trivial) rfl rfl, fun a w R => (e_eql_P (R.val 7) (R.val 8) ((fun w => (eq_Point _ _ _ _ w).trans (by rw [t8_.out])))), fun a w R => mv (R.val 9), fun a w R => ld_P (R.slot 5 rfl) (R.keep ow5.drawn trivial) rfl rfl, fun a w R => ld_P (R.slot 4 rfl) (R.keep ow4.drawn trivial) rfl rfl, fun a w R => (e_eql_P (R.val 11) (R.val 12) ((fun w => (eq_Point _ _ _ _ w).trans (by rw [t9_.out])))), fun a w R => pickn (R.val 10) (R.val 13), fun a w R => mv (R.val 14), fun a w R => True.intro, fun a w R => True.intro, fun a w R => True.intro, fun a w R => True.intro, fun a w R => picko (R.val 15) (R.goneS 19), fun a w R => cb_eql_tt (R.val 6) (R.val 20) rfl, fun a w R => pickt (R.val 1) (R.val 21), fun a w R => asg (R.val 22), trivial⟩ (fun act_ W7 I => ?_)
              rw [I.act [(81, .bool true), (82, .bool true), (83, .agg #[.int .u64 (L0 r), .int .u64 (L1 r), .int .u64 (L2 r), .int .u64 (L3 r), .int .u64 (L0 s), .int .u64 (L1 s), .int .u64 (L2 s), .int .u64 (L3 s)]), (84, .pointer (some ⟨(w.heap.size + 1 + 1), 1, none⟩)), (85, .int .i64 p2), (86, .agg #[.int .u64 (L0 p2), .int .u64 (L1 p2), .int .u64 (L2 p2), .int .u64 (L3 p2), .int .u64 (L0 1), .int .u64 (L1 1), .int .u64 (L2 1), .int .u64 (L3 1)]), (87, .bool false), (88, .agg #[.int .i64 p1, .int .i64 p2]), (89, .agg #[.int .i64 a1, .int .i64 a2]), (90, .bool false), (91, .bool false), (92, .agg #[.int .i64 p1, .int .i64 p2]), (93, .agg #[.int .i64 b1, .int .i64 b2]), (94, .bool true), (95, .bool true), (96, .bool true), (97, undef), (98, undef), (99, undef), (100, undef), (101, .bool true), (102, .bool false), (103, .bool false), (6, .bool false)]
                ⟨I.val 0, I.val 1, I.val 2, I.val 3, I.val 4, I.val 5, I.val 6, I.val 7, I.val 8, I.val 9, I.val 10, I.val 11, I.val 12, I.val 13, I.val 14, I.val 15, I.gone 16, I.gone 17, I.gone 18, I.gone 19, I.val 20, I.val 21, I.val 22, I.val 23, trivial⟩ rfl]
              have sW7 : W6.heap.size ≤ W7.heap.size := I.below.size
              replace ow3 := I.keep ow3.drawn trivial
              replace ow4 := I.keep ow4.drawn trivial
              replace ow5 := I.keep ow5.drawn trivial
              replace ow16 := I.keep ow16.drawn trivial
              replace ow7 := I.keep ow7.drawn trivial
              replace ow9 := I.keep ow9.drawn trivial
              replace ow11 := I.keep ow11.drawn trivial
              have hW7 : Below w.heap.size w W7 := then_ hW6.drew I.below hW6.size
              clear I
              simp only [List.foldl_cons, List.foldl_nil, List.setIfInBounds_toArray, List.set_cons_zero, List.set_cons_succ]
              clear ow3 ow4 ow5 ow16 ow7 ow9 ow11
              go_wp2
              try simp only [setCell_drawn]
              refine bodyPost_ret (by first | (simp [results, Try.results5, go_sem]; done) | (simp [results, Try.results5, go_sem]; rfl)) rfl ⟨?_, hW7⟩
              exfalso; have h0_ := t1_.out; have h1_ := t2_.out; have h2_ := t3_.out; have h3_ := t4_.out; have h4_ := t8_.out; have h5_ := t9_.out; have hz_ := HZ.out; simp at *; grind
            · have t9_ := Lib.hid t9
              clear t9
              rcases Bool.eq_false_or_eq_true (onB p1 p2 a1 a2 b1 b2) with t10 | t10
              · have t10_ := Lib.hid t10
                clear t10
                go_upto_region 10 with fail
                refine region_memo (B := W6.heap.size) (L := .val (.bool true) :: .val (.bool true) :: .val (.agg #[.int .u64 (L0 r), .int .u64 (L1 r), .int .u64 (L2 r), .int .u64 (L3 r), .int .u64 (L0 s), .int .u64 (L1 s), .int .u64 (L2 s), .int .u64 (L3 s)]) :: .val (.pointer (some ⟨(w.heap.size + 1 + 1), 1, none⟩)) :: .val (.int .i64 p2) :: .val (.agg #[.int .u64 (L0 p2), .int .u64 (L1 p2), .int .u64 (L2 p2), .int .u64 (L3 p2), .int .u64 (L0 1), .int .u64 (L1 1), .int .u64 (L2 1), .int .u64 (L3 1)]) :: .val (.bool false) :: .val (.agg #[.int .i64 p1, .int .i64 p2]) :: .val (.agg #[.int .i64 a1, .int .i64 a2]) :: .val (.bool false) :: .val (.bool false) :: .val (.agg #[.int .i64 p1, .int .i64 p2]) :: .val (.agg #[.int .i64 b1, .int .i64 b2]) :: .val (.bool false) :: .val (.bool false) :: .val (.bool false) :: .val (.agg #[.int .i64 p1, .int .i64 p2]) :: .val (.agg #[.int .i64 a1, .int .i64 a2]) :: .val (.agg #[.int .i64 b1, .int .i64 b2]) :: .val (.bool true) :: .val (.bool true) :: .val (.bool false) :: .val (.bool false) :: .val (.bool false) :: []) (by kernel_rfl) (by kernel_rfl) (Nat.le_refl _) ((by exact trivial))
                  ⟨fun a w R => cl_0 (enter_at Try.func12)  (awake_any _), fun a w R => mv (R.val 0), fun a w R => ld_R (R.slot 11 rfl) (R.keep ow11.drawn trivial) rfl rfl rfl rfl rfl rfl rfl rfl, fun a w R => fa_P_1 (R.slot 5 rfl), fun a w R => ld_int (R.val 3) (R.keep ow5.drawn trivial) rfl, fun a w R => cl_t (enter_at Try.func20) (R.val 4) (Whole_any p2 (by omega) (by omega) _), fun a w R => (e_eql_R (R.val 2) (R.val 5) ((fun w => (eq_Ratio fr ⟨by omega, by omega⟩ fs ⟨by decide, by decide⟩ w).trans (by rw [t4_.out])))), fun a w R => ld_P (R.slot 5 rfl) (R.keep ow5.drawn trivial) rfl rfl, fun a w R => ld_P (R.slot 3 rfl) (R.keep ow3.drawn trivial) rfl rfl, fun a w R => (e_eql_P (R.val 7) (R.val 8) ((fun w => (eq_Point _ _ _ _ w).trans (by rw [t8_.out])))), fun a w R => mv (R.val 9), fun a w R => ld_P (R.slot 5 rfl) (R.keep ow5.drawn trivial) rfl rfl, fun a w R => ld_P (R.slot 4 rfl) (R.keep ow4.drawn trivial) rfl rfl, fun a w R => (e_eql_P (R.val 11) (R.val 12) ((fun w => (eq_Point _ _ _ _ w).trans (by rw [t9_.out])))), fun a w R => pickn (R.val 10) (R.val 13), fun a w R => mv (R.val 14), fun a w R => ld_P (R.slot 5 rfl) (R.keep ow5.drawn trivial) rfl rfl, fun a w R => ld_P (R.slot 3 rfl) (R.keep ow3.drawn trivial) rfl rfl, fun a w R => ld_P (R.slot 4 rfl) (R.keep ow4.drawn trivial) rfl rfl, fun a w R => cl_ttt (enter_at Try.func16) (R.val 16) (R.val 17) (R.val 18) (On_is t10_.out _), fun a w R => pickn (R.val 15) (R.val 19), fun a w R => cb_eql_tt (R.val 6) (R.val 20) rfl, fun a w R => pickt (R.val 1) (R.val 21), fun a w R => asg (R.val 22), trivial⟩ (fun act_ W7 I => ?_)
                rw [I.act [(81, .bool true), (82, .bool true), (83, .agg #[.int .u64 (L0 r), .int .u64 (L1 r), .int .u64 (L2 r), .int .u64 (L3 r), .int .u64 (L0 s), .int .u64 (L1 s), .int .u64 (L2 s), .int .u64 (L3 s)]), (84, .pointer (some ⟨(w.heap.size + 1 + 1), 1, none⟩)), (85, .int .i64 p2), (86, .agg #[.int .u64 (L0 p2), .int .u64 (L1 p2), .int .u64 (L2 p2), .int .u64 (L3 p2), .int .u64 (L0 1), .int .u64 (L1 1), .int .u64 (L2 1), .int .u64 (L3 1)]), (87, .bool false), (88, .agg #[.int .i64 p1, .int .i64 p2]), (89, .agg #[.int .i64 a1, .int .i64 a2]), (90, .bool false), (91, .bool false), (92, .agg #[.int .i64 p1, .int .i64 p2]), (93, .agg #[.int .i64 b1, .int .i64 b2]), (94, .bool false), (95, .bool false), (96, .bool false), (97, .agg #[.int .i64 p1, .int .i64 p2]), (98, .agg #[.int .i64 a1, .int .i64 a2]), (99, .agg #[.int .i64 b1, .int .i64 b2]), (100, .bool true), (101, .bool true), (102, .bool false), (103, .bool false), (6, .bool false)]
                  ⟨I.val 0, I.val 1, I.val 2, I.val 3, I.val 4, I.val 5, I.val 6, I.val 7, I.val 8, I.val 9, I.val 10, I.val 11, I.val 12, I.val 13, I.val 14, I.val 15, I.val 16, I.val 17, I.val 18, I.val 19, I.val 20, I.val 21, I.val 22, I.val 23, trivial⟩ rfl]
                have sW7 : W6.heap.size ≤ W7.heap.size := I.below.size
                replace ow3 := I.keep ow3.drawn trivial
                replace ow4 := I.keep ow4.drawn trivial
                replace ow5 := I.keep ow5.drawn trivial
                replace ow16 := I.keep ow16.drawn trivial
                replace ow7 := I.keep ow7.drawn trivial
                replace ow9 := I.keep ow9.drawn trivial
                replace ow11 := I.keep ow11.drawn trivial
                have hW7 : Below w.heap.size w W7 := then_ hW6.drew I.below hW6.size
                clear I
                simp only [List.foldl_cons, List.foldl_nil, List.setIfInBounds_toArray, List.set_cons_zero, List.set_cons_succ]
                clear ow3 ow4 ow5 ow16 ow7 ow9 ow11
                go_wp2
                try simp only [setCell_drawn]
                refine bodyPost_ret (by first | (simp [results, Try.results5, go_sem]; done) | (simp [results, Try.results5, go_sem]; rfl)) rfl ⟨?_, hW7⟩
                exfalso; have h0_ := t1_.out; have h1_ := t2_.out; have h2_ := t3_.out; have h3_ := t4_.out; have h4_ := t8_.out; have h5_ := t9_.out; have h6_ := t10_.out; have hz_ := HZ.out; simp at *; grind
              · have t10_ := Lib.hid t10
                clear t10
                go_upto_region 10 with fail
                refine region_memo (B := W6.heap.size) (L := .val (.bool true) :: .val (.bool true) :: .val (.agg #[.int .u64 (L0 r), .int .u64 (L1 r), .int .u64 (L2 r), .int .u64 (L3 r), .int .u64 (L0 s), .int .u64 (L1 s), .int .u64 (L2 s), .int .u64 (L3 s)]) :: .val (.pointer (some ⟨(w.heap.size + 1 + 1), 1, none⟩)) :: .val (.int .i64 p2) :: .val (.agg #[.int .u64 (L0 p2), .int .u64 (L1 p2), .int .u64 (L2 p2), .int .u64 (L3 p2), .int .u64 (L0 1), .int .u64 (L1 1), .int .u64 (L2 1), .int .u64 (L3 1)]) :: .val (.bool false) :: .val (.agg #[.int .i64 p1, .int .i64 p2]) :: .val (.agg #[.int .i64 a1, .int .i64 a2]) :: .val (.bool false) :: .val (.bool false) :: .val (.agg #[.int .i64 p1, .int .i64 p2]) :: .val (.agg #[.int .i64 b1, .int .i64 b2]) :: .val (.bool false) :: .val (.bool false) :: .val (.bool false) :: .val (.agg #[.int .i64 p1, .int .i64 p2]) :: .val (.agg #[.int .i64 a1, .int .i64 a2]) :: .val (.agg #[.int .i64 b1, .int .i64 b2]) :: .val (.bool false) :: .val (.bool false) :: .val (.bool true) :: .val (.bool true) :: .val (.bool true) :: []) (by kernel_rfl) (by kernel_rfl) (Nat.le_refl _) ((by exact trivial))
                  ⟨fun a w R => cl_0 (enter_at Try.func12)  (awake_any _), fun a w R => mv (R.val 0), fun a w R => ld_R (R.slot 11 rfl) (R.keep ow11.drawn trivial) rfl rfl rfl rfl rfl rfl rfl rfl, fun a w R => fa_P_1 (R.slot 5 rfl), fun a w R => ld_int (R.val 3) (R.keep ow5.drawn trivial) rfl, fun a w R => cl_t (enter_at Try.func20) (R.val 4) (Whole_any p2 (by omega) (by omega) _), fun a w R => (e_eql_R (R.val 2) (R.val 5) ((fun w => (eq_Ratio fr ⟨by omega, by omega⟩ fs ⟨by decide, by decide⟩ w).trans (by rw [t4_.out])))), fun a w R => ld_P (R.slot 5 rfl) (R.keep ow5.drawn trivial) rfl rfl, fun a w R => ld_P (R.slot 3 rfl) (R.keep ow3.drawn trivial) rfl rfl, fun a w R => (e_eql_P (R.val 7) (R.val 8) ((fun w => (eq_Point _ _ _ _ w).trans (by rw [t8_.out])))), fun a w R => mv (R.val 9), fun a w R => ld_P (R.slot 5 rfl) (R.keep ow5.drawn trivial) rfl rfl, fun a w R => ld_P (R.slot 4 rfl) (R.keep ow4.drawn trivial) rfl rfl, fun a w R => (e_eql_P (R.val 11) (R.val 12) ((fun w => (eq_Point _ _ _ _ w).trans (by rw [t9_.out])))), fun a w R => pickn (R.val 10) (R.val 13), fun a w R => mv (R.val 14), fun a w R => ld_P (R.slot 5 rfl) (R.keep ow5.drawn trivial) rfl rfl, fun a w R => ld_P (R.slot 3 rfl) (R.keep ow3.drawn trivial) rfl rfl, fun a w R => ld_P (R.slot 4 rfl) (R.keep ow4.drawn trivial) rfl rfl, fun a w R => cl_ttt (enter_at Try.func16) (R.val 16) (R.val 17) (R.val 18) (On_is t10_.out _), fun a w R => pickn (R.val 15) (R.val 19), fun a w R => cb_eql_tt (R.val 6) (R.val 20) rfl, fun a w R => pickt (R.val 1) (R.val 21), fun a w R => asg (R.val 22), trivial⟩ (fun act_ W7 I => ?_)
                rw [I.act [(81, .bool true), (82, .bool true), (83, .agg #[.int .u64 (L0 r), .int .u64 (L1 r), .int .u64 (L2 r), .int .u64 (L3 r), .int .u64 (L0 s), .int .u64 (L1 s), .int .u64 (L2 s), .int .u64 (L3 s)]), (84, .pointer (some ⟨(w.heap.size + 1 + 1), 1, none⟩)), (85, .int .i64 p2), (86, .agg #[.int .u64 (L0 p2), .int .u64 (L1 p2), .int .u64 (L2 p2), .int .u64 (L3 p2), .int .u64 (L0 1), .int .u64 (L1 1), .int .u64 (L2 1), .int .u64 (L3 1)]), (87, .bool false), (88, .agg #[.int .i64 p1, .int .i64 p2]), (89, .agg #[.int .i64 a1, .int .i64 a2]), (90, .bool false), (91, .bool false), (92, .agg #[.int .i64 p1, .int .i64 p2]), (93, .agg #[.int .i64 b1, .int .i64 b2]), (94, .bool false), (95, .bool false), (96, .bool false), (97, .agg #[.int .i64 p1, .int .i64 p2]), (98, .agg #[.int .i64 a1, .int .i64 a2]), (99, .agg #[.int .i64 b1, .int .i64 b2]), (100, .bool false), (101, .bool false), (102, .bool true), (103, .bool true), (6, .bool true)]
                  ⟨I.val 0, I.val 1, I.val 2, I.val 3, I.val 4, I.val 5, I.val 6, I.val 7, I.val 8, I.val 9, I.val 10, I.val 11, I.val 12, I.val 13, I.val 14, I.val 15, I.val 16, I.val 17, I.val 18, I.val 19, I.val 20, I.val 21, I.val 22, I.val 23, trivial⟩ rfl]
                have sW7 : W6.heap.size ≤ W7.heap.size := I.below.size
                replace ow3 := I.keep ow3.drawn trivial
                replace ow4 := I.keep ow4.drawn trivial
                replace ow5 := I.keep ow5.drawn trivial
                replace ow16 := I.keep ow16.drawn trivial
                replace ow7 := I.keep ow7.drawn trivial
                replace ow9 := I.keep ow9.drawn trivial
                replace ow11 := I.keep ow11.drawn trivial
                have hW7 : Below w.heap.size w W7 := then_ hW6.drew I.below hW6.size
                clear I
                simp only [List.foldl_cons, List.foldl_nil, List.setIfInBounds_toArray, List.set_cons_zero, List.set_cons_succ]
                clear ow3 ow4 ow5 ow16 ow7 ow9 ow11
                go_wp2
                try simp only [setCell_drawn]
                refine bodyPost_ret (by first | (simp [results, Try.results5, go_sem]; done) | (simp [results, Try.results5, go_sem]; rfl)) rfl ⟨?_, hW7⟩
                rfl
      · have t3_ := Lib.hid t3
        clear t3
        go_upto_region 8 with fail
        refine region_memo_f (B := W5.heap.size) (L := .val (.int .i64 er) :: .val (.bool true) :: []) (by kernel_rfl) (Nat.le_refl _) ((by exact trivial))
          ⟨fun a w R => mv (R.slot 12 rfl), fun a w R => c_neq_tk (R.val 0) (Try.underlying37) (by rw [t3_.out]; rfl), trivial⟩ (fun act_ W6 I => ?_)
        rw [I.act [(74, .int .i64 er), (75, .bool true)]
          ⟨I.val 0, I.val 1, trivial⟩ rfl]
        have sW6 : W5.heap.size ≤ W6.heap.size := I.below.size
        replace ow3 := I.keep ow3 trivial
        replace ow4 := I.keep ow4 trivial
        replace ow5 := I.keep ow5 trivial
        replace ow16 := I.keep ow16 trivial
        replace ow7 := I.keep ow7 trivial
        replace ow9 := I.keep ow9 trivial
        replace ow11 := I.keep ow11 trivial
        have hW6 : Below w.heap.size w W6 := then_ hW5 I.below hW5.size
        clear I
        simp only [List.foldl_cons, List.foldl_nil, List.setIfInBounds_toArray, List.set_cons_zero, List.set_cons_succ]
        rcases Bool.eq_false_or_eq_true ((er == 1)) with t11 | t11
        · have t11_ := Lib.hid t11
          clear t11
          go_upto_region 9 with fail
          refine region_memo_f (B := W6.heap.size) (L := .val (.bool true) :: .val (.bool true) :: .val (.int .i64 er) :: .val (.bool true) :: .val (.bool true) :: .val (.bool true) :: []) (by kernel_rfl) (Nat.le_refl _) ((by exact trivial))
            ⟨fun a w R => cl_0 (enter_at Try.func12)  (awake_any _), fun a w R => mv (R.val 0), fun a w R => mv (R.slot 12 rfl), fun a w R => c_eql_tk (R.val 2) (Try.underlying37) t11_.out, fun a w R => pickt (R.val 1) (R.val 3), fun a w R => asg (R.val 4), trivial⟩ (fun act_ W7 I => ?_)
          rw [I.act [(76, .bool true), (77, .bool true), (78, .int .i64 er), (79, .bool true), (80, .bool true), (6, .bool true)]
            ⟨I.val 0, I.val 1, I.val 2, I.val 3, I.val 4, I.val 5, trivial⟩ rfl]
          have sW7 : W6.heap.size ≤ W7.heap.size := I.below.size
          replace ow3 := I.keep ow3 trivial
          replace ow4 := I.keep ow4 trivial
          replace ow5 := I.keep ow5 trivial
          replace ow16 := I.keep ow16 trivial
          replace ow7 := I.keep ow7 trivial
          replace ow9 := I.keep ow9 trivial
          replace ow11 := I.keep ow11 trivial
          have hW7 : Below w.heap.size w W7 := then_ hW6 I.below hW6.size
          clear I
          simp only [List.foldl_cons, List.foldl_nil, List.setIfInBounds_toArray, List.set_cons_zero, List.set_cons_succ]
          clear ow3 ow4 ow5 ow16 ow7 ow9 ow11
          go_wp2
          try simp only [setCell_drawn]
          refine bodyPost_ret (by first | (simp [results, Try.results5, go_sem]; done) | (simp [results, Try.results5, go_sem]; rfl)) rfl ⟨?_, hW7⟩
          rfl
        · have t11_ := Lib.hid t11
          clear t11
          go_upto_region 9 with fail
          refine region_memo_f (B := W6.heap.size) (L := .val (.bool true) :: .val (.bool true) :: .val (.int .i64 er) :: .val (.bool false) :: .val (.bool false) :: .val (.bool false) :: []) (by kernel_rfl) (Nat.le_refl _) ((by exact trivial))
            ⟨fun a w R => cl_0 (enter_at Try.func12)  (awake_any _), fun a w R => mv (R.val 0), fun a w R => mv (R.slot 12 rfl), fun a w R => c_eql_tk (R.val 2) (Try.underlying37) t11_.out, fun a w R => pickt (R.val 1) (R.val 3), fun a w R => asg (R.val 4), trivial⟩ (fun act_ W7 I => ?_)
          rw [I.act [(76, .bool true), (77, .bool true), (78, .int .i64 er), (79, .bool false), (80, .bool false), (6, .bool false)]
            ⟨I.val 0, I.val 1, I.val 2, I.val 3, I.val 4, I.val 5, trivial⟩ rfl]
          have sW7 : W6.heap.size ≤ W7.heap.size := I.below.size
          replace ow3 := I.keep ow3 trivial
          replace ow4 := I.keep ow4 trivial
          replace ow5 := I.keep ow5 trivial
          replace ow16 := I.keep ow16 trivial
          replace ow7 := I.keep ow7 trivial
          replace ow9 := I.keep ow9 trivial
          replace ow11 := I.keep ow11 trivial
          have hW7 : Below w.heap.size w W7 := then_ hW6 I.below hW6.size
          clear I
          simp only [List.foldl_cons, List.foldl_nil, List.setIfInBounds_toArray, List.set_cons_zero, List.set_cons_succ]
          clear ow3 ow4 ow5 ow16 ow7 ow9 ow11
          go_wp2
          try simp only [setCell_drawn]
          refine bodyPost_ret (by first | (simp [results, Try.results5, go_sem]; done) | (simp [results, Try.results5, go_sem]; rfl)) rfl ⟨?_, hW7⟩
          exfalso; have h0_ := t1_.out; have h1_ := t2_.out; have h2_ := t3_.out; have h3_ := t11_.out; have hz_ := HZ.out; simp at *; grind
  · have t1_ := Lib.hid t1
    clear t1
    go_upto_region 1 with fail
    refine region_memo_f (B := W0.heap.size) (L := .val (.agg #[.int .i64 a1, .int .i64 a2]) :: .val (.agg #[.int .i64 b1, .int .i64 b2]) :: .val (.agg #[.int .i64 p1, .int .i64 p2]) :: .new 23 #[.int .i64 a1, .int .i64 a2, .int .i64 b1, .int .i64 b2, .int .i64 p1, .int .i64 p2] (some (3, 3)) :: .val (.bool false) :: .val (.bool true) :: .val (.bool true) :: .skip :: .skip :: .skip :: .skip :: .skip :: .val (.bool true) :: []) (by kernel_rfl) (Nat.le_refl _) ((by exact trivial))
      ⟨fun a w R => ld_P (R.slot 3 rfl) (R.keep ow3 trivial) rfl rfl, fun a w R => ld_P (R.slot 4 rfl) (R.keep ow4 trivial) rfl rfl, fun a w R => ld_P (R.slot 5 rfl) (R.keep ow5 trivial) rfl rfl, fun a w R => bsP_3 (R.val 0) (R.val 1) (R.val 2), fun a w R => cl_n (enter_at Try.func11) (R.dep 3) (fun g hg => lawin3 t1_.out hg), fun a w R => notb (R.val 4), fun a w R => mv (R.val 5), fun a w R => True.intro, fun a w R => True.intro, fun a w R => True.intro, fun a w R => True.intro, fun a w R => True.intro, fun a w R => picko (R.val 6) (R.goneS 11), trivial⟩ (fun act_ W1 I => ?_)
    obtain ⟨gb16, ew16, lw16, ow16⟩ := I.new 3 rfl rfl rfl
    rw [I.act [(13, .agg #[.int .i64 a1, .int .i64 a2]), (14, .agg #[.int .i64 b1, .int .i64 b2]), (15, .agg #[.int .i64 p1, .int .i64 p2]), (16, .slice (some ⟨gb16, 0, none⟩) 3 3), (17, .bool false), (18, .bool true), (19, .bool true), (20, undef), (21, undef), (22, undef), (23, undef), (24, undef), (25, .bool true)]
      ⟨I.val 0, I.val 1, I.val 2, ew16, I.val 4, I.val 5, I.val 6, I.gone 7, I.gone 8, I.gone 9, I.gone 10, I.gone 11, I.val 12, trivial⟩ rfl]
    change W0.heap.size ≤ gb16 at lw16
    have sW1 : W0.heap.size ≤ W1.heap.size := I.below.size
    replace ow3 := I.keep ow3 trivial
    replace ow4 := I.keep ow4 trivial
    replace ow5 := I.keep ow5 trivial
    have hW1 : Below w.heap.size w W1 := then_ hW0 I.below hW0.size
    clear ew16
    clear I
    simp only [List.foldl_cons, List.foldl_nil, List.setIfInBounds_toArray, List.set_cons_zero, List.set_cons_succ]
    go_upto_region 2 with fail
    refine region_memo_f (B := W1.heap.size) (L := .val (.bool true) :: .val (.bool true) :: []) (by kernel_rfl) (Nat.le_refl _) ((by exact trivial))
      ⟨fun a w R => cl_0 (enter_at Try.func12)  (awake_any _), fun a w R => asg (R.val 0), trivial⟩ (fun act_ W2 I => ?_)
    rw [I.act [(26, .bool true), (6, .bool true)]
      ⟨I.val 0, I.val 1, trivial⟩ rfl]
    have sW2 : W1.heap.size ≤ W2.heap.size := I.below.size
    replace ow3 := I.keep ow3 trivial
    replace ow4 := I.keep ow4 trivial
    replace ow5 := I.keep ow5 trivial
    replace ow16 := I.keep ow16 trivial
    have hW2 : Below w.heap.size w W2 := then_ hW1 I.below hW1.size
    clear I
    simp only [List.foldl_cons, List.foldl_nil, List.setIfInBounds_toArray, List.set_cons_zero, List.set_cons_succ]
    clear ow3 ow4 ow5 ow16
    go_wp2
    try simp only [setCell_drawn]
    refine bodyPost_ret (by first | (simp [results, Try.results5, go_sem]; done) | (simp [results, Try.results5, go_sem]; rfl)) rfl ⟨?_, hW2⟩
    rfl

set_option maxRecDepth 100000 in
theorem lifted (os : Os) (started : os.Started) (H : Type) (enc : TypeId × Value → H) :
    ReturnsInHanded {} Try.checked os 5 .any (Rows.geomEndsSpec.pre6 enc Try.prog Try.f5 Rows.geomEndsRow.domain false) (Rows.geomEndsSpec.post enc Try.prog Try.f5 false true false false) := by
  refine returnsInHanded_of_change (C := Try.checked) own started (by kernel_rfl) Try.func5
    (ChangeSpec.witness6 (enc := enc) (C := Try.checked) false ⟨#[], #[.agg #[.int .i64 0, .int .i64 0], .agg #[.int .i64 0, .int .i64 0], .agg #[.int .i64 0, .int .i64 0]], []⟩ 8 (by kernel_rfl) (by kernel_rfl) (by kernel_rfl) (by kernel_rfl)) ?_
  intro W base args ds gs before hval0 hW hcnd _
  have hval : ∀ (j : Nat) t v, Try.f5.params[j]? = some t → args[j]? = some v → Value.okWide Try.prog W .any base t v := hval0
  have hW' := hW
  obtain ⟨p, q, hA0, hV, rfl, hfz, hnd⟩ := hW
  have hA : DataW.TrodAll enc Try.prog W 0 (fun _ => true) true Try.f5.params.toList args.toList ds p := hA0
  rw [Try.params5] at hA hval
  obtain ⟨v0, vs0, d0, ds0, p0, q0, hargs, rfl, rfl, h0, r0⟩ := trodAll_cons hA
  obtain ⟨v1, vs1, d1, ds1, p1, q1, rfl, rfl, rfl, h1, r1⟩ := trodAll_cons r0
  obtain ⟨v2, vs2, d2, ds2, p2, q2, rfl, rfl, rfl, h2, r2⟩ := trodAll_cons r1
  obtain ⟨rfl, rfl, rfl⟩ := trodAll_nil r2
  obtain rfl : args = #[v0, v1, v2] := by cases args; simp_all
  obtain ⟨rfl, rfl⟩ := trodVars_none hV
  obtain ⟨a1, a2, rfl, rfl, fa1, fa2⟩ := open_pt (hval 0 23 v0 rfl rfl) h0
  obtain ⟨b1, b2, rfl, rfl, fb1, fb2⟩ := open_pt (hval 1 23 v1 rfl rfl) h1
  obtain ⟨p1, p2, rfl, rfl, fp1, fp2⟩ := open_pt (hval 2 23 v2 rfl rfl) h2
  clear hA0 hval0
  refine (walk a1 a2 b1 b2 p1 p2 W fa1 fa2 fb1 fb2 fp1 fp2).mono fun e W' ⟨he, bel⟩ => ?_
  subst he
  exact ⟨_, rfl, _, _, _, [], _, [], hW', trodAll_mk1 (shut_bool Try.underlying4 _), (trodAll_cons_mk (Below.trod laidOut (by kernel_rfl) (of_decide_eq_true (by kernel_rfl)) h0 bel (fun x hx => by cases hx)) (trodAll_cons_mk (Below.trod laidOut (by kernel_rfl) (of_decide_eq_true (by kernel_rfl)) h1 bel (fun x hx => by cases hx)) (trodAll_cons_mk (Below.trod laidOut (by kernel_rfl) (of_decide_eq_true (by kernel_rfl)) h2 bel (fun x hx => by cases hx)) trodAll_mk0))), rfl, bel.frame _, fun h => by cases h⟩

theorem over : Rows.geomEndsRow.holds Try.pinned (OpenSpec.ofChange Rows.geomEndsSpec) :=
  OpenClaim.holds_of_wide 5 Try.f5 rfl rfl rfl rfl rfl rfl rfl ⟨rfl, rfl, rfl, rfl, rfl⟩ rfl rfl rfl rfl rfl (by kernel_rfl) Try.func5 (by kernel_rfl)
    (of_decide_eq_true (by kernel_rfl)) (by unfold Func.isWrapper; first | (rw [if_pos (by decide +kernel)]; kernel_rfl) | (rw [if_neg (by decide +kernel)]; exact ⟨rfl, rfl⟩))
    (fun os started H enc _ => lifted os started H enc)

/-- THE STATEMENT -/
theorem proved : Rows.GeomEndsSaid := over
#print axioms proved
end Go.Proofs.Ytlifghecgpibfaa.geomEnds
