/- RatioMakes: of any two numbers the fraction is the document's, or refused as it says, and right: for every two wide.Ints; the tables start as the program's text lays them. -/
import Derived.Test.YtoondjildbanhaaDoorRows
import Derived.Test.YtoondjildbanhaaDoorWideU
import Derived.Test.YtoondjildbanhaaDoorQatE
import Derived.WalkKit
import Derived.ProofKit
import Derived.OpenShut
import Derived.ShutString
import Derived.ChangeOld
import Derived.Below
import Derived.SliceStrings
import Derived.Test.YtoondjildbanhaaDoorLaid
import Derived.Test.YtoondjildbanhaaDoorCards
import Derived.Test.YtoondjildbanhaaDoorTie
import Derived.LaidMore
import Derived.Stop.Joined
import Derived.SevenTiedAt
namespace Go.Proofs.YtoondjildbanhaaDoor.ratioMakes
open Go.ChangeShapes Go.WideShapes Go.ChangeAt Go.RowKit
open Go.ChangeMaps (open_string shut_string)
set_option linter.unusedVariables false

set_option linter.unusedSimpArgs false

theorem own : ownKnob Tryd.prog.godebug = none := by kernel_rfl
theorem laidOut : laidOutB Tryd.prog = true := by kernel_rfl

set_option maxHeartbeats 16000000 in
set_option maxRecDepth 20000 in
theorem walk (z0 : Int) (z1 : Int) (w : World) (f0 : Fit z0) (f1 : Fit z1) (hp : Pow10 w) :
    Calls Tryd.prog 5 #[.agg #[.int .u64 (L0 z0), .int .u64 (L1 z0), .int .u64 (L2 z0), .int .u64 (L3 z0)], .agg #[.int .u64 (L0 z1), .int .u64 (L1 z1), .int .u64 (L2 z1), .int .u64 (L3 z1)]] w fun e w' => e = .returned (.bool true) ∧ Below w.heap.size w w' := by
  have MK := Lib.hid (fun w => rmake_any f0 f1 w)
  go_enter Tryd.func5, Tryd.ntmps5
  go_upto_region 1 with fail
  go_name_world W0 hW0e
  have ow2 : Own W0 w.heap.size 24 #[.int .u64 (L0 z0), .int .u64 (L1 z0), .int .u64 (L2 z0), .int .u64 (L3 z0)] := hW0e ▸ (by repeat' (first | (with_reducible assumption) | (with_reducible refine Own.drawnN ?_ _) | (with_reducible refine Own.drawn ?_) | (with_reducible refine Own.made_at ?_; first | rfl | (simp; done) | omega | (simp; omega)) | (with_reducible refine Own.more ?_ _) | (with_reducible refine Own.apart ?_ ?_ _ _; rotate_left; first | omega | (simp; done) | (simp; omega)) | (refine Own.put ?_ _ _)))
  have ow3 : Own W0 (w.heap.size + 1) 24 #[.int .u64 (L0 z1), .int .u64 (L1 z1), .int .u64 (L2 z1), .int .u64 (L3 z1)] := hW0e ▸ (by repeat' (first | (with_reducible assumption) | (with_reducible refine Own.drawnN ?_ _) | (with_reducible refine Own.drawn ?_) | (with_reducible refine Own.made_at ?_; first | rfl | (simp; done) | omega | (simp; omega)) | (with_reducible refine Own.more ?_ _) | (with_reducible refine Own.apart ?_ ?_ _ _; rotate_left; first | omega | (simp; done) | (simp; omega)) | (refine Own.put ?_ _ _)))
  have hW0 : Below w.heap.size w W0 := hW0e ▸ (by repeat' (first | (with_reducible exact Below.refl _ _) | (with_reducible assumption) | (with_reducible refine below_drewN ?_ _) | (with_reducible refine Below.drew ?_) | (with_reducible refine Below.alloc ?_ ?_ _) | (with_reducible refine Below.setCell ?_ ?_ _) | (with_reducible refine then_ ?_ (by with_reducible assumption) ?_) | (with_reducible exact Nat.le_refl _) | (with_reducible exact Nat.le_succ _) | (with_reducible exact Nat.le_succ_of_le (by with_reducible assumption)) | omega | (simp; done) | (simp; omega) | (exact Nat.le_succ _) | (exact Nat.le_succ_of_le (by with_reducible assumption))))
  clear hW0e
  have zown := ow3.in_
  go_upto_region 1 with fail
  refine region_memo_f (B := W0.heap.size) (L := .val (.agg #[.int .u64 (L0 z0), .int .u64 (L1 z0), .int .u64 (L2 z0), .int .u64 (L3 z0)]) :: .val (.agg #[.int .u64 (L0 z1), .int .u64 (L1 z1), .int .u64 (L2 z1), .int .u64 (L3 z1)]) :: .val (.tuple #[.agg #[.int .u64 (L0 (mkP z0 z1)), .int .u64 (L1 (mkP z0 z1)), .int .u64 (L2 (mkP z0 z1)), .int .u64 (L3 (mkP z0 z1)), .int .u64 (L0 (mkQ z0 z1)), .int .u64 (L1 (mkQ z0 z1)), .int .u64 (L2 (mkQ z0 z1)), .int .u64 (L3 (mkQ z0 z1))], .int .i64 (mkR z0 z1)]) :: .val (.tuple #[.agg #[.int .u64 (L0 (mkP z0 z1)), .int .u64 (L1 (mkP z0 z1)), .int .u64 (L2 (mkP z0 z1)), .int .u64 (L3 (mkP z0 z1)), .int .u64 (L0 (mkQ z0 z1)), .int .u64 (L1 (mkQ z0 z1)), .int .u64 (L2 (mkQ z0 z1)), .int .u64 (L3 (mkQ z0 z1))], .int .i64 (mkR z0 z1)]) :: .val (.agg #[.int .u64 (L0 (mkP z0 z1)), .int .u64 (L1 (mkP z0 z1)), .int .u64 (L2 (mkP z0 z1)), .int .u64 (L3 (mkP z0 z1)), .int .u64 (L0 (mkQ z0 z1)), .int .u64 (L1 (mkQ z0 z1)), .int .u64 (L2 (mkQ z0 z1)), .int .u64 (L3 (mkQ z0 z1))]) :: .val (.int .i64 (mkR z0 z1)) :: .blk 26 8 :: .put 5 26 #[.int .u64 (L0 (mkP z0 z1)), .int .u64 (L1 (mkP z0 z1)), .int .u64 (L2 (mkP z0 z1)), .int .u64 (L3 (mkP z0 z1)), .int .u64 (L0 (mkQ z0 z1)), .int .u64 (L1 (mkQ z0 z1)), .int .u64 (L2 (mkQ z0 z1)), .int .u64 (L3 (mkQ z0 z1))] :: .val (.int .i64 (mkR z0 z1)) :: []) (by kernel_rfl) (Nat.le_refl _) ((by exact trivial))
    ⟨fun a w R => ld_W (R.slot 2 rfl) (R.keep ow2 trivial) rfl rfl rfl rfl, fun a w R => ld_W (R.slot 3 rfl) (R.keep ow3 trivial) rfl rfl rfl rfl, fun a w R => cl_tt (enter_at Tryd.func17) (R.val 0) (R.val 1) (Make_mk f0 f1 _), fun a w R => mv (R.val 2), fun a w R => ex0 (R.val 3), fun a w R => ex1 (R.val 3), fun a w R => al_R, fun a w R => sb_R (R.dep 6) (R.val 4), fun a w R => asg (R.val 5), trivial⟩ (fun act_ W1 I => ?_)
  obtain ⟨gb5, ew5, lw5, ow5⟩ := I.put 7 rfl rfl
  rw [I.act [(10, .agg #[.int .u64 (L0 z0), .int .u64 (L1 z0), .int .u64 (L2 z0), .int .u64 (L3 z0)]), (11, .agg #[.int .u64 (L0 z1), .int .u64 (L1 z1), .int .u64 (L2 z1), .int .u64 (L3 z1)]), (12, .tuple #[.agg #[.int .u64 (L0 (mkP z0 z1)), .int .u64 (L1 (mkP z0 z1)), .int .u64 (L2 (mkP z0 z1)), .int .u64 (L3 (mkP z0 z1)), .int .u64 (L0 (mkQ z0 z1)), .int .u64 (L1 (mkQ z0 z1)), .int .u64 (L2 (mkQ z0 z1)), .int .u64 (L3 (mkQ z0 z1))], .int .i64 (mkR z0 z1)]), (9, .tuple #[.agg #[.int .u64 (L0 (mkP z0 z1)), .int .u64 (L1 (mkP z0 z1)), .int .u64 (L2 (mkP z0 z1)), .int .u64 (L3 (mkP z0 z1)), .int .u64 (L0 (mkQ z0 z1)), .int .u64 (L1 (mkQ z0 z1)), .int .u64 (L2 (mkQ z0 z1)), .int .u64 (L3 (mkQ z0 z1))], .int .i64 (mkR z0 z1)]), (13, .agg #[.int .u64 (L0 (mkP z0 z1)), .int .u64 (L1 (mkP z0 z1)), .int .u64 (L2 (mkP z0 z1)), .int .u64 (L3 (mkP z0 z1)), .int .u64 (L0 (mkQ z0 z1)), .int .u64 (L1 (mkQ z0 z1)), .int .u64 (L2 (mkQ z0 z1)), .int .u64 (L3 (mkQ z0 z1))]), (14, .int .i64 (mkR z0 z1)), (5, .pointer (some ⟨gb5, 0, none⟩)), (6, .int .i64 (mkR z0 z1))]
    ⟨I.val 0, I.val 1, I.val 2, I.val 3, I.val 4, I.val 5, ew5, I.val 8, trivial⟩ rfl]
  change W0.heap.size ≤ gb5 at lw5
  have sW1 : W0.heap.size ≤ W1.heap.size := I.below.size
  replace ow2 := I.keep ow2 trivial
  replace ow3 := I.keep ow3 trivial
  have hW1 : Below w.heap.size w W1 := then_ hW0 I.below hW0.size
  clear ew5
  clear I
  simp only [List.foldl_cons, List.foldl_nil, List.setIfInBounds_toArray, List.set_cons_zero, List.set_cons_succ]
  go_upto_region 2 with fail
  refine region_memo_f (B := W1.heap.size) (L := .val (.agg #[.int .u64 (L0 z0), .int .u64 (L1 z0), .int .u64 (L2 z0), .int .u64 (L3 z0)]) :: .val (.agg #[.int .u64 (L0 z1), .int .u64 (L1 z1), .int .u64 (L2 z1), .int .u64 (L3 z1)]) :: .val (.tuple #[.agg #[.int .u64 (L0 (mkP z0 z1)), .int .u64 (L1 (mkP z0 z1)), .int .u64 (L2 (mkP z0 z1)), .int .u64 (L3 (mkP z0 z1)), .int .u64 (L0 (mkQ z0 z1)), .int .u64 (L1 (mkQ z0 z1)), .int .u64 (L2 (mkQ z0 z1)), .int .u64 (L3 (mkQ z0 z1))], .int .i64 (mkR z0 z1)]) :: .val (.tuple #[.agg #[.int .u64 (L0 (mkP z0 z1)), .int .u64 (L1 (mkP z0 z1)), .int .u64 (L2 (mkP z0 z1)), .int .u64 (L3 (mkP z0 z1)), .int .u64 (L0 (mkQ z0 z1)), .int .u64 (L1 (mkQ z0 z1)), .int .u64 (L2 (mkQ z0 z1)), .int .u64 (L3 (mkQ z0 z1))], .int .i64 (mkR z0 z1)]) :: .val (.agg #[.int .u64 (L0 (mkP z0 z1)), .int .u64 (L1 (mkP z0 z1)), .int .u64 (L2 (mkP z0 z1)), .int .u64 (L3 (mkP z0 z1)), .int .u64 (L0 (mkQ z0 z1)), .int .u64 (L1 (mkQ z0 z1)), .int .u64 (L2 (mkQ z0 z1)), .int .u64 (L3 (mkQ z0 z1))]) :: .val (.int .i64 (mkR z0 z1)) :: .blk 38 8 :: .put 7 38 #[.int .u64 (L0 (mkP z0 z1)), .int .u64 (L1 (mkP z0 z1)), .int .u64 (L2 (mkP z0 z1)), .int .u64 (L3 (mkP z0 z1)), .int .u64 (L0 (mkQ z0 z1)), .int .u64 (L1 (mkQ z0 z1)), .int .u64 (L2 (mkQ z0 z1)), .int .u64 (L3 (mkQ z0 z1))] :: .val (.int .i64 (mkR z0 z1)) :: []) (by kernel_rfl) (Nat.le_refl _) ((by exact trivial))
    ⟨fun a w R => ld_W (R.slot 2 rfl) (R.keep ow2 trivial) rfl rfl rfl rfl, fun a w R => ld_W (R.slot 3 rfl) (R.keep ow3 trivial) rfl rfl rfl rfl, fun a w R => cl_tt (enter_at Tryd.func18) (R.val 0) (R.val 1) (MK.out _), fun a w R => mv (R.val 2), fun a w R => ex0 (R.val 3), fun a w R => ex1 (R.val 3), fun a w R => al_Q, fun a w R => sb_Q (R.dep 6) (R.val 4), fun a w R => asg (R.val 5), trivial⟩ (fun act_ W2 I => ?_)
  obtain ⟨gb7, ew7, lw7, ow7⟩ := I.put 7 rfl rfl
  rw [I.act [(16, .agg #[.int .u64 (L0 z0), .int .u64 (L1 z0), .int .u64 (L2 z0), .int .u64 (L3 z0)]), (17, .agg #[.int .u64 (L0 z1), .int .u64 (L1 z1), .int .u64 (L2 z1), .int .u64 (L3 z1)]), (18, .tuple #[.agg #[.int .u64 (L0 (mkP z0 z1)), .int .u64 (L1 (mkP z0 z1)), .int .u64 (L2 (mkP z0 z1)), .int .u64 (L3 (mkP z0 z1)), .int .u64 (L0 (mkQ z0 z1)), .int .u64 (L1 (mkQ z0 z1)), .int .u64 (L2 (mkQ z0 z1)), .int .u64 (L3 (mkQ z0 z1))], .int .i64 (mkR z0 z1)]), (15, .tuple #[.agg #[.int .u64 (L0 (mkP z0 z1)), .int .u64 (L1 (mkP z0 z1)), .int .u64 (L2 (mkP z0 z1)), .int .u64 (L3 (mkP z0 z1)), .int .u64 (L0 (mkQ z0 z1)), .int .u64 (L1 (mkQ z0 z1)), .int .u64 (L2 (mkQ z0 z1)), .int .u64 (L3 (mkQ z0 z1))], .int .i64 (mkR z0 z1)]), (19, .agg #[.int .u64 (L0 (mkP z0 z1)), .int .u64 (L1 (mkP z0 z1)), .int .u64 (L2 (mkP z0 z1)), .int .u64 (L3 (mkP z0 z1)), .int .u64 (L0 (mkQ z0 z1)), .int .u64 (L1 (mkQ z0 z1)), .int .u64 (L2 (mkQ z0 z1)), .int .u64 (L3 (mkQ z0 z1))]), (20, .int .i64 (mkR z0 z1)), (7, .pointer (some ⟨gb7, 0, none⟩)), (8, .int .i64 (mkR z0 z1))]
    ⟨I.val 0, I.val 1, I.val 2, I.val 3, I.val 4, I.val 5, ew7, I.val 8, trivial⟩ rfl]
  change W1.heap.size ≤ gb7 at lw7
  have sW2 : W1.heap.size ≤ W2.heap.size := I.below.size
  replace ow2 := I.keep ow2 trivial
  replace ow3 := I.keep ow3 trivial
  replace ow5 := I.keep ow5 trivial
  have hW2 : Below w.heap.size w W2 := then_ hW1 I.below hW1.size
  clear ew7
  clear I
  simp only [List.foldl_cons, List.foldl_nil, List.setIfInBounds_toArray, List.set_cons_zero, List.set_cons_succ]
  rcases Bool.eq_false_or_eq_true (((mkR z0 z1) == 0)) with t1 | t1
  · have t1_ := Lib.hid t1
    clear t1
    go_upto_region 3 with fail
    refine region_memo (B := W2.heap.size) (L := .val (.bool true) :: .val (.bool true) :: .val (.int .i64 (mkR z0 z1)) :: .val (.int .i64 (mkR z0 z1)) :: .val (.bool true) :: .val (.bool true) :: .val (.bool true) :: .val (.agg #[.int .u64 (L0 (mkP z0 z1)), .int .u64 (L1 (mkP z0 z1)), .int .u64 (L2 (mkP z0 z1)), .int .u64 (L3 (mkP z0 z1)), .int .u64 (L0 (mkQ z0 z1)), .int .u64 (L1 (mkQ z0 z1)), .int .u64 (L2 (mkQ z0 z1)), .int .u64 (L3 (mkQ z0 z1))]) :: .val (.agg #[.int .u64 (L0 (mkP z0 z1)), .int .u64 (L1 (mkP z0 z1)), .int .u64 (L2 (mkP z0 z1)), .int .u64 (L3 (mkP z0 z1)), .int .u64 (L0 (mkQ z0 z1)), .int .u64 (L1 (mkQ z0 z1)), .int .u64 (L2 (mkQ z0 z1)), .int .u64 (L3 (mkQ z0 z1))]) :: .val (.agg #[.int .u64 (L0 (mkP z0 z1)), .int .u64 (L1 (mkP z0 z1)), .int .u64 (L2 (mkP z0 z1)), .int .u64 (L3 (mkP z0 z1)), .int .u64 (L0 (mkQ z0 z1)), .int .u64 (L1 (mkQ z0 z1)), .int .u64 (L2 (mkQ z0 z1)), .int .u64 (L3 (mkQ z0 z1))]) :: .val (.bool true) :: .val (.bool true) :: .val (.bool true) :: .val (.int .i64 (mkR z0 z1)) :: .val (.bool false) :: .val (.bool false) :: .val (.agg #[.int .u64 (L0 (mkP z0 z1)), .int .u64 (L1 (mkP z0 z1)), .int .u64 (L2 (mkP z0 z1)), .int .u64 (L3 (mkP z0 z1)), .int .u64 (L0 (mkQ z0 z1)), .int .u64 (L1 (mkQ z0 z1)), .int .u64 (L2 (mkQ z0 z1)), .int .u64 (L3 (mkQ z0 z1))]) :: .val (.bool true) :: .val (.bool true) :: .val (.bool true) :: .val (.bool true) :: []) (by kernel_rfl) (by kernel_rfl) (Nat.le_refl _) ((by exact trivial))
      ⟨fun a w R => cl_0 (enter_at Tryd.func11)  (awake4 _ ((hp.keep hW2.drew).keep R.below)), fun a w R => mv (R.val 0), fun a w R => mv (R.slot 6 rfl), fun a w R => mv (R.slot 8 rfl), fun a w R => c_eql_tt (R.val 2) (R.val 3) (Tryd.underlying3) (by simp), fun a w R => pickt (R.val 1) (R.val 4), fun a w R => mv (R.val 5), fun a w R => ld_R (R.slot 5 rfl) (R.keep ow5.drawn trivial) rfl rfl rfl rfl rfl rfl rfl rfl, fun a w R => cl_t (enter_at Tryd.func19) (R.val 7) (plain_any _), fun a w R => ld_Q (R.slot 7 rfl) (R.keep ow7.drawn trivial) rfl rfl rfl rfl rfl rfl rfl rfl, fun a w R => (e_eql_Q (R.val 8) (R.val 9) (fun w => (eq_Q (mkP_fit z0 z1) (mkP_fit z0 z1) (mkQ_fit z0 z1) (mkQ_fit z0 z1) w).trans (by simp))), fun a w R => pickt (R.val 6) (R.val 10), fun a w R => mv (R.val 11), fun a w R => mv (R.slot 6 rfl), fun a w R => c_neq_tk (R.val 13) (Tryd.underlying27) (by rw [t1_.out]; rfl), fun a w R => mv (R.val 14), fun a w R => ld_R (R.slot 5 rfl) (R.keep ow5.drawn trivial) rfl rfl rfl rfl rfl rfl rfl rfl, fun a w R => cl_t (enter_at Tryd.func12) (R.val 16) (Right_is (mkP_fit z0 z1) (mkQ_fit z0 z1) (decide_eq_true (mk_rgt (mkR_zero (by have := t1_.out; simpa using this)))) _), fun a w R => pickn (R.val 15) (R.val 17), fun a w R => pickt (R.val 12) (R.val 18), fun a w R => asg (R.val 19), trivial⟩ (fun act_ W3 I => ?_)
    rw [I.act [(21, .bool true), (22, .bool true), (23, .int .i64 (mkR z0 z1)), (24, .int .i64 (mkR z0 z1)), (25, .bool true), (26, .bool true), (27, .bool true), (28, .agg #[.int .u64 (L0 (mkP z0 z1)), .int .u64 (L1 (mkP z0 z1)), .int .u64 (L2 (mkP z0 z1)), .int .u64 (L3 (mkP z0 z1)), .int .u64 (L0 (mkQ z0 z1)), .int .u64 (L1 (mkQ z0 z1)), .int .u64 (L2 (mkQ z0 z1)), .int .u64 (L3 (mkQ z0 z1))]), (29, .agg #[.int .u64 (L0 (mkP z0 z1)), .int .u64 (L1 (mkP z0 z1)), .int .u64 (L2 (mkP z0 z1)), .int .u64 (L3 (mkP z0 z1)), .int .u64 (L0 (mkQ z0 z1)), .int .u64 (L1 (mkQ z0 z1)), .int .u64 (L2 (mkQ z0 z1)), .int .u64 (L3 (mkQ z0 z1))]), (30, .agg #[.int .u64 (L0 (mkP z0 z1)), .int .u64 (L1 (mkP z0 z1)), .int .u64 (L2 (mkP z0 z1)), .int .u64 (L3 (mkP z0 z1)), .int .u64 (L0 (mkQ z0 z1)), .int .u64 (L1 (mkQ z0 z1)), .int .u64 (L2 (mkQ z0 z1)), .int .u64 (L3 (mkQ z0 z1))]), (31, .bool true), (32, .bool true), (33, .bool true), (34, .int .i64 (mkR z0 z1)), (35, .bool false), (36, .bool false), (37, .agg #[.int .u64 (L0 (mkP z0 z1)), .int .u64 (L1 (mkP z0 z1)), .int .u64 (L2 (mkP z0 z1)), .int .u64 (L3 (mkP z0 z1)), .int .u64 (L0 (mkQ z0 z1)), .int .u64 (L1 (mkQ z0 z1)), .int .u64 (L2 (mkQ z0 z1)), .int .u64 (L3 (mkQ z0 z1))]), (38, .bool true), (39, .bool true), (40, .bool true), (4, .bool true)]
      ⟨I.val 0, I.val 1, I.val 2, I.val 3, I.val 4, I.val 5, I.val 6, I.val 7, I.val 8, I.val 9, I.val 10, I.val 11, I.val 12, I.val 13, I.val 14, I.val 15, I.val 16, I.val 17, I.val 18, I.val 19, I.val 20, trivial⟩ rfl]
    have sW3 : W2.heap.size ≤ W3.heap.size := I.below.size
    replace ow2 := I.keep ow2.drawn trivial
    replace ow3 := I.keep ow3.drawn trivial
    replace ow5 := I.keep ow5.drawn trivial
    replace ow7 := I.keep ow7.drawn trivial
    have hW3 : Below w.heap.size w W3 := then_ hW2.drew I.below hW2.size
    clear I
    simp only [List.foldl_cons, List.foldl_nil, List.setIfInBounds_toArray, List.set_cons_zero, List.set_cons_succ]
    clear ow2 ow3 ow5 ow7
    go_wp2
    try simp only [setCell_drawn]
    refine bodyPost_ret (by first | (simp [results, Tryd.results5, go_sem]; done) | (simp [results, Tryd.results5, go_sem]; rfl)) rfl ⟨?_, hW3⟩
    rfl
  · have t1_ := Lib.hid t1
    clear t1
    go_upto_region 3 with fail
    refine region_memo (B := W2.heap.size) (L := .val (.bool true) :: .val (.bool true) :: .val (.int .i64 (mkR z0 z1)) :: .val (.int .i64 (mkR z0 z1)) :: .val (.bool true) :: .val (.bool true) :: .val (.bool true) :: .val (.agg #[.int .u64 (L0 (mkP z0 z1)), .int .u64 (L1 (mkP z0 z1)), .int .u64 (L2 (mkP z0 z1)), .int .u64 (L3 (mkP z0 z1)), .int .u64 (L0 (mkQ z0 z1)), .int .u64 (L1 (mkQ z0 z1)), .int .u64 (L2 (mkQ z0 z1)), .int .u64 (L3 (mkQ z0 z1))]) :: .val (.agg #[.int .u64 (L0 (mkP z0 z1)), .int .u64 (L1 (mkP z0 z1)), .int .u64 (L2 (mkP z0 z1)), .int .u64 (L3 (mkP z0 z1)), .int .u64 (L0 (mkQ z0 z1)), .int .u64 (L1 (mkQ z0 z1)), .int .u64 (L2 (mkQ z0 z1)), .int .u64 (L3 (mkQ z0 z1))]) :: .val (.agg #[.int .u64 (L0 (mkP z0 z1)), .int .u64 (L1 (mkP z0 z1)), .int .u64 (L2 (mkP z0 z1)), .int .u64 (L3 (mkP z0 z1)), .int .u64 (L0 (mkQ z0 z1)), .int .u64 (L1 (mkQ z0 z1)), .int .u64 (L2 (mkQ z0 z1)), .int .u64 (L3 (mkQ z0 z1))]) :: .val (.bool true) :: .val (.bool true) :: .val (.bool true) :: .val (.int .i64 (mkR z0 z1)) :: .val (.bool true) :: .val (.bool true) :: .skip :: .skip :: .val (.bool true) :: .val (.bool true) :: .val (.bool true) :: []) (by kernel_rfl) (by kernel_rfl) (Nat.le_refl _) ((by exact trivial))
      ⟨fun a w R => cl_0 (enter_at Tryd.func11)  (awake4 _ ((hp.keep hW2.drew).keep R.below)), fun a w R => mv (R.val 0), fun a w R => mv (R.slot 6 rfl), fun a w R => mv (R.slot 8 rfl), fun a w R => c_eql_tt (R.val 2) (R.val 3) (Tryd.underlying3) (by simp), fun a w R => pickt (R.val 1) (R.val 4), fun a w R => mv (R.val 5), fun a w R => ld_R (R.slot 5 rfl) (R.keep ow5.drawn trivial) rfl rfl rfl rfl rfl rfl rfl rfl, fun a w R => cl_t (enter_at Tryd.func19) (R.val 7) (plain_any _), fun a w R => ld_Q (R.slot 7 rfl) (R.keep ow7.drawn trivial) rfl rfl rfl rfl rfl rfl rfl rfl, fun a w R => (e_eql_Q (R.val 8) (R.val 9) (fun w => (eq_Q (mkP_fit z0 z1) (mkP_fit z0 z1) (mkQ_fit z0 z1) (mkQ_fit z0 z1) w).trans (by simp))), fun a w R => pickt (R.val 6) (R.val 10), fun a w R => mv (R.val 11), fun a w R => mv (R.slot 6 rfl), fun a w R => c_neq_tk (R.val 13) (Tryd.underlying27) (by rw [t1_.out]; rfl), fun a w R => mv (R.val 14), fun a w R => True.intro, fun a w R => True.intro, fun a w R => picko (R.val 15) (R.goneS 17), fun a w R => pickt (R.val 12) (R.val 18), fun a w R => asg (R.val 19), trivial⟩ (fun act_ W3 I => ?_)
    rw [I.act [(21, .bool true), (22, .bool true), (23, .int .i64 (mkR z0 z1)), (24, .int .i64 (mkR z0 z1)), (25, .bool true), (26, .bool true), (27, .bool true), (28, .agg #[.int .u64 (L0 (mkP z0 z1)), .int .u64 (L1 (mkP z0 z1)), .int .u64 (L2 (mkP z0 z1)), .int .u64 (L3 (mkP z0 z1)), .int .u64 (L0 (mkQ z0 z1)), .int .u64 (L1 (mkQ z0 z1)), .int .u64 (L2 (mkQ z0 z1)), .int .u64 (L3 (mkQ z0 z1))]), (29, .agg #[.int .u64 (L0 (mkP z0 z1)), .int .u64 (L1 (mkP z0 z1)), .int .u64 (L2 (mkP z0 z1)), .int .u64 (L3 (mkP z0 z1)), .int .u64 (L0 (mkQ z0 z1)), .int .u64 (L1 (mkQ z0 z1)), .int .u64 (L2 (mkQ z0 z1)), .int .u64 (L3 (mkQ z0 z1))]), (30, .agg #[.int .u64 (L0 (mkP z0 z1)), .int .u64 (L1 (mkP z0 z1)), .int .u64 (L2 (mkP z0 z1)), .int .u64 (L3 (mkP z0 z1)), .int .u64 (L0 (mkQ z0 z1)), .int .u64 (L1 (mkQ z0 z1)), .int .u64 (L2 (mkQ z0 z1)), .int .u64 (L3 (mkQ z0 z1))]), (31, .bool true), (32, .bool true), (33, .bool true), (34, .int .i64 (mkR z0 z1)), (35, .bool true), (36, .bool true), (37, undef), (38, undef), (39, .bool true), (40, .bool true), (4, .bool true)]
      ⟨I.val 0, I.val 1, I.val 2, I.val 3, I.val 4, I.val 5, I.val 6, I.val 7, I.val 8, I.val 9, I.val 10, I.val 11, I.val 12, I.val 13, I.val 14, I.val 15, I.gone 16, I.gone 17, I.val 18, I.val 19, I.val 20, trivial⟩ rfl]
    have sW3 : W2.heap.size ≤ W3.heap.size := I.below.size
    replace ow2 := I.keep ow2.drawn trivial
    replace ow3 := I.keep ow3.drawn trivial
    replace ow5 := I.keep ow5.drawn trivial
    replace ow7 := I.keep ow7.drawn trivial
    have hW3 : Below w.heap.size w W3 := then_ hW2.drew I.below hW2.size
    clear I
    simp only [List.foldl_cons, List.foldl_nil, List.setIfInBounds_toArray, List.set_cons_zero, List.set_cons_succ]
    clear ow2 ow3 ow5 ow7
    go_wp2
    try simp only [setCell_drawn]
    refine bodyPost_ret (by first | (simp [results, Tryd.results5, go_sem]; done) | (simp [results, Tryd.results5, go_sem]; rfl)) rfl ⟨?_, hW3⟩
    rfl

set_option maxRecDepth 100000 in
theorem lifted (os : Os) (started : os.Started) (H : Type) (enc : TypeId × Value → H) :
    ReturnsInHanded {} Tryd.checked os 5 .any (fun w args => (Rows.ratioMakesSpec.pre enc Tryd.prog Tryd.f5 [] false w args ∧ laidMetH Tryd.prog lay3 w) ∧ sizedMet enc Tryd.prog Tryd.f5 (OpenSpec.ofChange Rows.ratioMakesSpec) false w args) (Rows.ratioMakesSpec.post enc Tryd.prog Tryd.f5 false true false false) := by
  refine returnsInHanded_of_change_and (C := Tryd.checked) (X := fun w _ => laidMetH Tryd.prog lay3 w) (fun _ _ _ hh h => h.of_heap hh) own started (by kernel_rfl) Tryd.func5
    (ChangeSpec.witness_shaped (enc := enc) (C := Tryd.checked) (os := os) (X := fun w _ => laidMetH Tryd.prog lay3 w) false (World.doorLaid Tryd.prog 400 os) #[.agg #[.int .u64 0, .int .u64 0, .int .u64 0, .int .u64 0], .agg #[.int .u64 0, .int .u64 0, .int .u64 0, .int .u64 0]] 8 rfl (World.shaped_of_RefB (by kernel_rfl) (by kernel_rfl)) (by kernel_rfl) (by kernel_rfl) (by kernel_rfl) (door_met os _)) ?_
  intro W base args ds gs before hval0 hW _ _ hL _
  have hval : ∀ (j : Nat) t v, Tryd.f5.params[j]? = some t → args[j]? = some v → Value.okWide Tryd.prog W .any base t v := hval0
  have hW' := hW
  obtain ⟨p, q, hA0, hV, rfl, hfz, hnd⟩ := hW
  have hA : DataW.TrodAll enc Tryd.prog W 0 (fun _ => true) true Tryd.f5.params.toList args.toList ds p := hA0
  rw [Tryd.params5] at hA hval
  obtain ⟨v0, vs0, d0, ds0, p0, q0, hargs, rfl, rfl, h0, r0⟩ := trodAll_cons hA
  obtain ⟨v1, vs1, d1, ds1, p1, q1, rfl, rfl, rfl, h1, r1⟩ := trodAll_cons r0
  obtain ⟨rfl, rfl, rfl⟩ := trodAll_nil r1
  obtain rfl : args = #[v0, v1] := by cases args; simp_all
  obtain ⟨rfl, rfl⟩ := trodVars_none hV
  obtain ⟨z0, rfl, rfl, rfl, f0⟩ := open_i4 (hval 0 24 v0 rfl rfl) h0
  obtain ⟨z1, rfl, rfl, rfl, f1⟩ := open_i4 (hval 1 24 v1 rfl rfl) h1
  clear hA0 hval0
  refine (walk z0 z1 W f0 f1 (pow_of hL)).mono fun e W' ⟨he, bel⟩ => ?_
  subst he
  exact ⟨_, rfl, _, _, _, [], _, [], hW', trodAll_mk1 (shut_bool Tryd.underlying4 _), (trodAll_cons_mk (shut_i4 _) (trodAll_cons_mk (shut_i4 _) trodAll_mk0)), rfl, bel.frame _, fun h => by cases h⟩

theorem over : Rows.RatioMakesSaid :=
  OpenClaim.holds_of_wide 5 Tryd.f5 rfl rfl rfl rfl rfl rfl rfl ⟨rfl, rfl, rfl, rfl, rfl⟩ rfl rfl rfl rfl rfl (by kernel_rfl) Tryd.func5 (by kernel_rfl)
    (of_decide_eq_true (by kernel_rfl)) (by unfold Func.isWrapper; first | (rw [if_pos (by decide +kernel)]; kernel_rfl) | (rw [if_neg (by decide +kernel)]; exact ⟨rfl, rfl⟩))
    (fun os started H enc _ => lifted os started H enc)

/-- THE STATEMENT -/
theorem proved : Rows.RatioMakesCardSaid :=
  Claim7.holds_tied_plain_at .later [] [.data, .data, .data] true (true, "1257776ec2f943525cae0ea3fa6ca8f747039df282edcd0a3c662c9bd8a4046e") false
    over (fun _ h => by cases h) (by kernel_rfl) (fun _ h => by cases h) ratioMakes_row_tie rfl ⟨rfl, rfl⟩ (by kernel_rfl) rfl
    (fun f fn hf hfn => by
      obtain rfl : f = 5 := Option.some.inj ((show Tryd.prog.funcNamed "croft/croftlaw04.RatioMakes" = some 5 by kernel_rfl).symm.trans hf) |>.symm
      obtain rfl : fn = Tryd.f5 := (Option.some.inj (Tryd.func5.symm.trans hfn)).symm
      exact ⟨by kernel_rfl, fun j t ht => by
        rw [Tryd.params5] at ht
        have hm : t ∈ [24, 24] := by simpa using Array.mem_of_getElem? ht
        have hall : ([24, 24].all fun u => !Tryd.prog.wantsStandIn u) = true := by kernel_rfl
        exact (show Tryd.prog.wantsStandIn t = false by simpa using List.all_eq_true.1 hall t hm)⟩)
    (by kernel_rfl)
#print axioms proved
end Go.Proofs.YtoondjildbanhaaDoor.ratioMakes
