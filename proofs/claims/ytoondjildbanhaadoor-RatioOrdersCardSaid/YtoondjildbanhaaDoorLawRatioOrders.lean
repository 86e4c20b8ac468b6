/- RatioOrders: fractions stand in one order, which goes with differences: for every three fractions, right or not; the tables start as the program's text lays them. -/
import Derived.Test.YtoondjildbanhaaDoorRows
import Derived.Test.YtoondjildbanhaaDoorWideU
import Derived.Test.YtoondjildbanhaaDoorRtE
import Derived.Test.YtoondjildbanhaaDoorRts
import Derived.WalkKit
import Derived.ProofKit
import Derived.OpenShut
import Derived.ShutString
import Derived.ChangeOld
import Derived.Below
import Derived.SliceStrings
import Derived.Test.YtoondjildbanhaaDoorLaid
import Derived.Test.YtoondjildbanhaaDoorCards
import Derived.Test.YtoondjildbanhaaDoorTie
import Derived.LaidMore
import Derived.Stop.Joined
import Derived.SevenTiedAt
namespace Go.Proofs.YtoondjildbanhaaDoor.ratioOrders
open Go.ChangeShapes Go.WideShapes Go.ChangeAt Go.RowKit
open Go.ChangeMaps (open_string shut_string)
set_option linter.unusedVariables false

set_option linter.unusedSimpArgs false

theorem own : ownKnob Tryd.prog.godebug = none := by kernel_rfl
theorem laidOut : laidOutB Tryd.prog = true := by kernel_rfl

set_option maxHeartbeats 16000000 in
set_option maxRecDepth 20000 in
theorem walk (an ad : Int) (bn bd : Int) (cn cd : Int) (w : World) (han : Fit an) (had : Fit ad) (hbn : Fit bn) (hbd : Fit bd) (hcn : Fit cn) (hcd : Fit cd) (hp : Pow10 w) :
    Calls Tryd.prog 4 #[.agg #[.int .u64 (L0 an), .int .u64 (L1 an), .int .u64 (L2 an), .int .u64 (L3 an), .int .u64 (L0 ad), .int .u64 (L1 ad), .int .u64 (L2 ad), .int .u64 (L3 ad)], .agg #[.int .u64 (L0 bn), .int .u64 (L1 bn), .int .u64 (L2 bn), .int .u64 (L3 bn), .int .u64 (L0 bd), .int .u64 (L1 bd), .int .u64 (L2 bd), .int .u64 (L3 bd)], .agg #[.int .u64 (L0 cn), .int .u64 (L1 cn), .int .u64 (L2 cn), .int .u64 (L3 cn), .int .u64 (L0 cd), .int .u64 (L1 cd), .int .u64 (L2 cd), .int .u64 (L3 cd)]] w fun e w' => e = .returned (.bool true) ∧ Below w.heap.size w w' := by
  have CAB : RowKit.Hid (∀ w : World, Calls Tryd.prog 15 #[.agg #[.int .u64 (L0 an), .int .u64 (L1 an), .int .u64 (L2 an), .int .u64 (L3 an), .int .u64 (L0 ad), .int .u64 (L1 ad), .int .u64 (L2 ad), .int .u64 (L3 ad)], .agg #[.int .u64 (L0 bn), .int .u64 (L1 bn), .int .u64 (L2 bn), .int .u64 (L3 bn), .int .u64 (L0 bd), .int .u64 (L1 bd), .int .u64 (L2 bd), .int .u64 (L3 bd)]] w fun e w' => e = .returned (.int .i64 (cmV an ad bn bd)) ∧ Below w.heap.size w w') := Lib.hid (fun w => RCmp_any han had hbn hbd w)
  have CBA : RowKit.Hid (∀ w : World, Calls Tryd.prog 15 #[.agg #[.int .u64 (L0 bn), .int .u64 (L1 bn), .int .u64 (L2 bn), .int .u64 (L3 bn), .int .u64 (L0 bd), .int .u64 (L1 bd), .int .u64 (L2 bd), .int .u64 (L3 bd)], .agg #[.int .u64 (L0 an), .int .u64 (L1 an), .int .u64 (L2 an), .int .u64 (L3 an), .int .u64 (L0 ad), .int .u64 (L1 ad), .int .u64 (L2 ad), .int .u64 (L3 ad)]] w fun e w' => e = .returned (.int .i64 (cmV bn bd an ad)) ∧ Below w.heap.size w w') := Lib.hid (fun w => RCmp_any hbn hbd han had w)
  have CBC : RowKit.Hid (∀ w : World, Calls Tryd.prog 15 #[.agg #[.int .u64 (L0 bn), .int .u64 (L1 bn), .int .u64 (L2 bn), .int .u64 (L3 bn), .int .u64 (L0 bd), .int .u64 (L1 bd), .int .u64 (L2 bd), .int .u64 (L3 bd)], .agg #[.int .u64 (L0 cn), .int .u64 (L1 cn), .int .u64 (L2 cn), .int .u64 (L3 cn), .int .u64 (L0 cd), .int .u64 (L1 cd), .int .u64 (L2 cd), .int .u64 (L3 cd)]] w fun e w' => e = .returned (.int .i64 (cmV bn bd cn cd)) ∧ Below w.heap.size w w') := Lib.hid (fun w => RCmp_any hbn hbd hcn hcd w)
  have CAC : RowKit.Hid (∀ w : World, Calls Tryd.prog 15 #[.agg #[.int .u64 (L0 an), .int .u64 (L1 an), .int .u64 (L2 an), .int .u64 (L3 an), .int .u64 (L0 ad), .int .u64 (L1 ad), .int .u64 (L2 ad), .int .u64 (L3 ad)], .agg #[.int .u64 (L0 cn), .int .u64 (L1 cn), .int .u64 (L2 cn), .int .u64 (L3 cn), .int .u64 (L0 cd), .int .u64 (L1 cd), .int .u64 (L2 cd), .int .u64 (L3 cd)]] w fun e w' => e = .returned (.int .i64 (cmV an ad cn cd)) ∧ Below w.heap.size w w') := Lib.hid (fun w => RCmp_any han had hcn hcd w)
  have CAA : RowKit.Hid (∀ w : World, Calls Tryd.prog 15 #[.agg #[.int .u64 (L0 an), .int .u64 (L1 an), .int .u64 (L2 an), .int .u64 (L3 an), .int .u64 (L0 ad), .int .u64 (L1 ad), .int .u64 (L2 ad), .int .u64 (L3 ad)], .agg #[.int .u64 (L0 an), .int .u64 (L1 an), .int .u64 (L2 an), .int .u64 (L3 an), .int .u64 (L0 ad), .int .u64 (L1 ad), .int .u64 (L2 ad), .int .u64 (L3 ad)]] w fun e w' => e = .returned (.int .i64 0) ∧ Below w.heap.size w w') := Lib.hid (fun w => by have h := RCmp_any han had han had w; rwa [cmV_self] at h)
  have SU : RowKit.Hid (∀ w : World, Calls Tryd.prog 13 #[.agg #[.int .u64 (L0 an), .int .u64 (L1 an), .int .u64 (L2 an), .int .u64 (L3 an), .int .u64 (L0 ad), .int .u64 (L1 ad), .int .u64 (L2 ad), .int .u64 (L3 ad)], .agg #[.int .u64 (L0 bn), .int .u64 (L1 bn), .int .u64 (L2 bn), .int .u64 (L3 bn), .int .u64 (L0 bd), .int .u64 (L1 bd), .int .u64 (L2 bd), .int .u64 (L3 bd)]] w fun e w' => e = .returned (.tuple #[.agg #[.int .u64 (L0 (rkP an ad bn bd (fb (an * bd) && fb (bn * ad) && fb (an * bd - bn * ad) && fb (ad * bd)) (an * bd - bn * ad) (ad * bd))), .int .u64 (L1 (rkP an ad bn bd (fb (an * bd) && fb (bn * ad) && fb (an * bd - bn * ad) && fb (ad * bd)) (an * bd - bn * ad) (ad * bd))), .int .u64 (L2 (rkP an ad bn bd (fb (an * bd) && fb (bn * ad) && fb (an * bd - bn * ad) && fb (ad * bd)) (an * bd - bn * ad) (ad * bd))), .int .u64 (L3 (rkP an ad bn bd (fb (an * bd) && fb (bn * ad) && fb (an * bd - bn * ad) && fb (ad * bd)) (an * bd - bn * ad) (ad * bd))), .int .u64 (L0 (rkQ an ad bn bd (fb (an * bd) && fb (bn * ad) && fb (an * bd - bn * ad) && fb (ad * bd)) (an * bd - bn * ad) (ad * bd))), .int .u64 (L1 (rkQ an ad bn bd (fb (an * bd) && fb (bn * ad) && fb (an * bd - bn * ad) && fb (ad * bd)) (an * bd - bn * ad) (ad * bd))), .int .u64 (L2 (rkQ an ad bn bd (fb (an * bd) && fb (bn * ad) && fb (an * bd - bn * ad) && fb (ad * bd)) (an * bd - bn * ad) (ad * bd))), .int .u64 (L3 (rkQ an ad bn bd (fb (an * bd) && fb (bn * ad) && fb (an * bd - bn * ad) && fb (ad * bd)) (an * bd - bn * ad) (ad * bd)))], .int .i64 (rkE an ad bn bd (fb (an * bd) && fb (bn * ad) && fb (an * bd - bn * ad) && fb (ad * bd)) (an * bd - bn * ad) (ad * bd))]) ∧ Below w.heap.size w w') := Lib.hid (fun w => RSub_all han had hbn hbd w)
  have hp_ := rkP_fit an ad bn bd (fb (an * bd) && fb (bn * ad) && fb (an * bd - bn * ad) && fb (ad * bd)) (an * bd - bn * ad) (ad * bd)
  have hq_ := rkQ_fit an ad bn bd (fb (an * bd) && fb (bn * ad) && fb (an * bd - bn * ad) && fb (ad * bd)) (an * bd - bn * ad) (ad * bd)
  have SG : RowKit.Hid (decide (Rgt an ad) = true → decide (Rgt bn bd) = true → (rkE an ad bn bd (fb (an * bd) && fb (bn * ad) && fb (an * bd - bn * ad) && fb (ad * bd)) (an * bd - bn * ad) (ad * bd) == 0) = true → ∀ w : World, Calls Tryd.prog 16 #[.agg #[.int .u64 (L0 (rkP an ad bn bd (fb (an * bd) && fb (bn * ad) && fb (an * bd - bn * ad) && fb (ad * bd)) (an * bd - bn * ad) (ad * bd))), .int .u64 (L1 (rkP an ad bn bd (fb (an * bd) && fb (bn * ad) && fb (an * bd - bn * ad) && fb (ad * bd)) (an * bd - bn * ad) (ad * bd))), .int .u64 (L2 (rkP an ad bn bd (fb (an * bd) && fb (bn * ad) && fb (an * bd - bn * ad) && fb (ad * bd)) (an * bd - bn * ad) (ad * bd))), .int .u64 (L3 (rkP an ad bn bd (fb (an * bd) && fb (bn * ad) && fb (an * bd - bn * ad) && fb (ad * bd)) (an * bd - bn * ad) (ad * bd))), .int .u64 (L0 (rkQ an ad bn bd (fb (an * bd) && fb (bn * ad) && fb (an * bd - bn * ad) && fb (ad * bd)) (an * bd - bn * ad) (ad * bd))), .int .u64 (L1 (rkQ an ad bn bd (fb (an * bd) && fb (bn * ad) && fb (an * bd - bn * ad) && fb (ad * bd)) (an * bd - bn * ad) (ad * bd))), .int .u64 (L2 (rkQ an ad bn bd (fb (an * bd) && fb (bn * ad) && fb (an * bd - bn * ad) && fb (ad * bd)) (an * bd - bn * ad) (ad * bd))), .int .u64 (L3 (rkQ an ad bn bd (fb (an * bd) && fb (bn * ad) && fb (an * bd - bn * ad) && fb (ad * bd)) (an * bd - bn * ad) (ad * bd)))]] w fun e w' => e = .returned (.int .i64 (cmV an ad bn bd)) ∧ Below w.heap.size w w') := Lib.hid (fun ha hb he w => by
    obtain ⟨h1, h2⟩ := ord_sign ha hb he
    have h := RSign_in hp_ hq_ h1 w
    rwa [h2] at h)
  have HEQ : RowKit.Hid (decide (Rgt an ad) = true → decide (Rgt bn bd) = true → decide (an = bn ∧ ad = bd) = (cmV an ad bn bd == 0)) := Lib.hid (fun ha hb => ord_eq ha hb)
  have TR : RowKit.Hid (decide (Rgt an ad) = true → decide (Rgt bn bd) = true → decide (Rgt cn cd) = true → decide (0 < cmV an ad bn bd) = false → decide (0 < cmV bn bd cn cd) = false → decide (cmV an ad cn cd ≤ 0) = true) := Lib.hid (fun ha hb hc h1 h2 => ord_trans ha hb hc h1 h2)
  have HXY : RowKit.Hid ((cmV an ad bn bd == (-(cmV bn bd an ad))) = true) := Lib.hid (by rw [cmV_neg an ad bn bd]; simp)
  have hy := cmV_le bn bd an ad
  generalize cmV an ad bn bd = x at *
  generalize cmV bn bd an ad = y at *
  generalize cmV bn bd cn cd = u at *
  generalize cmV an ad cn cd = z at *
  generalize rkP an ad bn bd (fb (an * bd) && fb (bn * ad) && fb (an * bd - bn * ad) && fb (ad * bd)) (an * bd - bn * ad) (ad * bd) = p at *
  generalize rkQ an ad bn bd (fb (an * bd) && fb (bn * ad) && fb (an * bd - bn * ad) && fb (ad * bd)) (an * bd - bn * ad) (ad * bd) = q at *
  generalize rkE an ad bn bd (fb (an * bd) && fb (bn * ad) && fb (an * bd - bn * ad) && fb (ad * bd)) (an * bd - bn * ad) (ad * bd) = er at *
  go_enter Tryd.func4, Tryd.ntmps4
  go_upto_region 1 with fail
  go_name_world W0 hW0e
  have ow3 : Own W0 w.heap.size 26 #[.int .u64 (L0 an), .int .u64 (L1 an), .int .u64 (L2 an), .int .u64 (L3 an), .int .u64 (L0 ad), .int .u64 (L1 ad), .int .u64 (L2 ad), .int .u64 (L3 ad)] := hW0e ▸ (by repeat' (first | (with_reducible assumption) | (with_reducible refine Own.drawnN ?_ _) | (with_reducible refine Own.drawn ?_) | (with_reducible refine Own.made_at ?_; first | rfl | (simp; done) | omega | (simp; omega)) | (with_reducible refine Own.more ?_ _) | (with_reducible refine Own.apart ?_ ?_ _ _; rotate_left; first | omega | (simp; done) | (simp; omega)) | (refine Own.put ?_ _ _)))
  have ow4 : Own W0 (w.heap.size + 1) 26 #[.int .u64 (L0 bn), .int .u64 (L1 bn), .int .u64 (L2 bn), .int .u64 (L3 bn), .int .u64 (L0 bd), .int .u64 (L1 bd), .int .u64 (L2 bd), .int .u64 (L3 bd)] := hW0e ▸ (by repeat' (first | (with_reducible assumption) | (with_reducible refine Own.drawnN ?_ _) | (with_reducible refine Own.drawn ?_) | (with_reducible refine Own.made_at ?_; first | rfl | (simp; done) | omega | (simp; omega)) | (with_reducible refine Own.more ?_ _) | (with_reducible refine Own.apart ?_ ?_ _ _; rotate_left; first | omega | (simp; done) | (simp; omega)) | (refine Own.put ?_ _ _)))
  have ow5 : Own W0 (w.heap.size + 1 + 1) 26 #[.int .u64 (L0 cn), .int .u64 (L1 cn), .int .u64 (L2 cn), .int .u64 (L3 cn), .int .u64 (L0 cd), .int .u64 (L1 cd), .int .u64 (L2 cd), .int .u64 (L3 cd)] := hW0e ▸ (by repeat' (first | (with_reducible assumption) | (with_reducible refine Own.drawnN ?_ _) | (with_reducible refine Own.drawn ?_) | (with_reducible refine Own.made_at ?_; first | rfl | (simp; done) | omega | (simp; omega)) | (with_reducible refine Own.more ?_ _) | (with_reducible refine Own.apart ?_ ?_ _ _; rotate_left; first | omega | (simp; done) | (simp; omega)) | (refine Own.put ?_ _ _)))
  have hW0 : Below w.heap.size w W0 := hW0e ▸ (by repeat' (first | (with_reducible exact Below.refl _ _) | (with_reducible assumption) | (with_reducible refine below_drewN ?_ _) | (with_reducible refine Below.drew ?_) | (with_reducible refine Below.alloc ?_ ?_ _) | (with_reducible refine Below.setCell ?_ ?_ _) | (with_reducible refine then_ ?_ (by with_reducible assumption) ?_) | (with_reducible exact Nat.le_refl _) | (with_reducible exact Nat.le_succ _) | (with_reducible exact Nat.le_succ_of_le (by with_reducible assumption)) | omega | (simp; done) | (simp; omega) | (exact Nat.le_succ _) | (exact Nat.le_succ_of_le (by with_reducible assumption))))
  clear hW0e
  have zown := ow5.in_
  go_upto_region 1 with fail
  refine region_memo_f (B := W0.heap.size) (L := .val (.agg #[.int .u64 (L0 an), .int .u64 (L1 an), .int .u64 (L2 an), .int .u64 (L3 an), .int .u64 (L0 ad), .int .u64 (L1 ad), .int .u64 (L2 ad), .int .u64 (L3 ad)]) :: .val (.agg #[.int .u64 (L0 bn), .int .u64 (L1 bn), .int .u64 (L2 bn), .int .u64 (L3 bn), .int .u64 (L0 bd), .int .u64 (L1 bd), .int .u64 (L2 bd), .int .u64 (L3 bd)]) :: .val (.int .i64 x) :: .val (.int .i64 x) :: []) (by kernel_rfl) (Nat.le_refl _) ((by exact trivial))
    ⟨fun a w R => ld_R (R.slot 3 rfl) (R.keep ow3 trivial) rfl rfl rfl rfl rfl rfl rfl rfl, fun a w R => ld_R (R.slot 4 rfl) (R.keep ow4 trivial) rfl rfl rfl rfl rfl rfl rfl rfl, fun a w R => cl_tt (enter_at Tryd.func15) (R.val 0) (R.val 1) (CAB.out _), fun a w R => asg (R.val 2), trivial⟩ (fun act_ W1 I => ?_)
  rw [I.act [(10, .agg #[.int .u64 (L0 an), .int .u64 (L1 an), .int .u64 (L2 an), .int .u64 (L3 an), .int .u64 (L0 ad), .int .u64 (L1 ad), .int .u64 (L2 ad), .int .u64 (L3 ad)]), (11, .agg #[.int .u64 (L0 bn), .int .u64 (L1 bn), .int .u64 (L2 bn), .int .u64 (L3 bn), .int .u64 (L0 bd), .int .u64 (L1 bd), .int .u64 (L2 bd), .int .u64 (L3 bd)]), (12, .int .i64 x), (7, .int .i64 x)]
    ⟨I.val 0, I.val 1, I.val 2, I.val 3, trivial⟩ rfl]
  have sW1 : W0.heap.size ≤ W1.heap.size := I.below.size
  replace ow3 := I.keep ow3 trivial
  replace ow4 := I.keep ow4 trivial
  replace ow5 := I.keep ow5 trivial
  have hW1 : Below w.heap.size w W1 := then_ hW0 I.below hW0.size
  clear I
  simp only [List.foldl_cons, List.foldl_nil, List.setIfInBounds_toArray, List.set_cons_zero, List.set_cons_succ]
  go_upto_region 2 with fail
  refine region_memo_f (B := W1.heap.size) (L := .val (.bool true) :: .val (.bool false) :: .val (.bool false) :: .val (.int .i64 x) :: .val (.agg #[.int .u64 (L0 bn), .int .u64 (L1 bn), .int .u64 (L2 bn), .int .u64 (L3 bn), .int .u64 (L0 bd), .int .u64 (L1 bd), .int .u64 (L2 bd), .int .u64 (L3 bd)]) :: .val (.agg #[.int .u64 (L0 an), .int .u64 (L1 an), .int .u64 (L2 an), .int .u64 (L3 an), .int .u64 (L0 ad), .int .u64 (L1 ad), .int .u64 (L2 ad), .int .u64 (L3 ad)]) :: .val (.int .i64 y) :: .val (.int .i64 (-y)) :: .val (.bool false) :: .val (.bool false) :: .val (.bool false) :: .val (.agg #[.int .u64 (L0 an), .int .u64 (L1 an), .int .u64 (L2 an), .int .u64 (L3 an), .int .u64 (L0 ad), .int .u64 (L1 ad), .int .u64 (L2 ad), .int .u64 (L3 ad)]) :: .val (.agg #[.int .u64 (L0 an), .int .u64 (L1 an), .int .u64 (L2 an), .int .u64 (L3 an), .int .u64 (L0 ad), .int .u64 (L1 ad), .int .u64 (L2 ad), .int .u64 (L3 ad)]) :: .val (.int .i64 0) :: .val (.bool false) :: .val (.bool false) :: []) (by kernel_rfl) (Nat.le_refl _) ((by exact trivial))
    ⟨fun a w R => cl_0 (enter_at Tryd.func11)  (awake4 _ ((hp.keep hW1).keep R.below)), fun a w R => notb (R.val 0), fun a w R => mv (R.val 1), fun a w R => mv (R.slot 7 rfl), fun a w R => ld_R (R.slot 4 rfl) (R.keep ow4 trivial) rfl rfl rfl rfl rfl rfl rfl rfl, fun a w R => ld_R (R.slot 3 rfl) (R.keep ow3 trivial) rfl rfl rfl rfl rfl rfl rfl rfl, fun a w R => cl_tt (enter_at Tryd.func15) (R.val 4) (R.val 5) (CBA.out _), fun a w R => negi (R.val 6) (by first | rfl | (simp only [IntKind.wrap_i64]; omega)), fun a w R => c_neq_tt (R.val 3) (R.val 7) (Tryd.underlying3) (by rw [HXY.out]; rfl), fun a w R => pickn (R.val 2) (R.val 8), fun a w R => mv (R.val 9), fun a w R => ld_R (R.slot 3 rfl) (R.keep ow3 trivial) rfl rfl rfl rfl rfl rfl rfl rfl, fun a w R => ld_R (R.slot 3 rfl) (R.keep ow3 trivial) rfl rfl rfl rfl rfl rfl rfl rfl, fun a w R => cl_tt (enter_at Tryd.func15) (R.val 11) (R.val 12) (CAA.out _), fun a w R => c_neq_tk (R.val 13) (Tryd.underlying3) (by decide), fun a w R => pickn (R.val 10) (R.val 14), trivial⟩ (fun act_ W2 I => ?_)
  rw [I.act [(13, .bool true), (14, .bool false), (15, .bool false), (16, .int .i64 x), (17, .agg #[.int .u64 (L0 bn), .int .u64 (L1 bn), .int .u64 (L2 bn), .int .u64 (L3 bn), .int .u64 (L0 bd), .int .u64 (L1 bd), .int .u64 (L2 bd), .int .u64 (L3 bd)]), (18, .agg #[.int .u64 (L0 an), .int .u64 (L1 an), .int .u64 (L2 an), .int .u64 (L3 an), .int .u64 (L0 ad), .int .u64 (L1 ad), .int .u64 (L2 ad), .int .u64 (L3 ad)]), (19, .int .i64 y), (20, .int .i64 (-y)), (21, .bool false), (22, .bool false), (23, .bool false), (24, .agg #[.int .u64 (L0 an), .int .u64 (L1 an), .int .u64 (L2 an), .int .u64 (L3 an), .int .u64 (L0 ad), .int .u64 (L1 ad), .int .u64 (L2 ad), .int .u64 (L3 ad)]), (25, .agg #[.int .u64 (L0 an), .int .u64 (L1 an), .int .u64 (L2 an), .int .u64 (L3 an), .int .u64 (L0 ad), .int .u64 (L1 ad), .int .u64 (L2 ad), .int .u64 (L3 ad)]), (26, .int .i64 0), (27, .bool false), (28, .bool false)]
    ⟨I.val 0, I.val 1, I.val 2, I.val 3, I.val 4, I.val 5, I.val 6, I.val 7, I.val 8, I.val 9, I.val 10, I.val 11, I.val 12, I.val 13, I.val 14, I.val 15, trivial⟩ rfl]
  have sW2 : W1.heap.size ≤ W2.heap.size := I.below.size
  replace ow3 := I.keep ow3 trivial
  replace ow4 := I.keep ow4 trivial
  replace ow5 := I.keep ow5 trivial
  have hW2 : Below w.heap.size w W2 := then_ hW1 I.below hW1.size
  clear I
  simp only [List.foldl_cons, List.foldl_nil, List.setIfInBounds_toArray, List.set_cons_zero, List.set_cons_succ]
  rcases Bool.eq_false_or_eq_true (decide (Rgt an ad)) with t1 | t1
  · have t1_ := Lib.hid t1
    clear t1
    rcases Bool.eq_false_or_eq_true (decide (Rgt bn bd)) with t2 | t2
    · have t2_ := Lib.hid t2
      clear t2
      rcases Bool.eq_false_or_eq_true (decide (Rgt cn cd)) with t3 | t3
      · have t3_ := Lib.hid t3
        clear t3
        go_upto_region 4 with fail
        refine region_memo_f (B := W2.heap.size) (L := .val (.agg #[.int .u64 (L0 an), .int .u64 (L1 an), .int .u64 (L2 an), .int .u64 (L3 an), .int .u64 (L0 ad), .int .u64 (L1 ad), .int .u64 (L2 ad), .int .u64 (L3 ad)]) :: .val (.bool true) :: .val (.bool false) :: .val (.bool false) :: .val (.agg #[.int .u64 (L0 bn), .int .u64 (L1 bn), .int .u64 (L2 bn), .int .u64 (L3 bn), .int .u64 (L0 bd), .int .u64 (L1 bd), .int .u64 (L2 bd), .int .u64 (L3 bd)]) :: .val (.bool true) :: .val (.bool false) :: .val (.bool false) :: .val (.bool false) :: .val (.agg #[.int .u64 (L0 cn), .int .u64 (L1 cn), .int .u64 (L2 cn), .int .u64 (L3 cn), .int .u64 (L0 cd), .int .u64 (L1 cd), .int .u64 (L2 cd), .int .u64 (L3 cd)]) :: .val (.bool true) :: .val (.bool false) :: .val (.bool false) :: []) (by kernel_rfl) (Nat.le_refl _) ((by exact trivial))
          ⟨fun a w R => ld_R (R.slot 3 rfl) (R.keep ow3 trivial) rfl rfl rfl rfl rfl rfl rfl rfl, fun a w R => cl_t (enter_at Tryd.func12) (R.val 0) (Right_is han had t1_.out _), fun a w R => notb (R.val 1), fun a w R => mv (R.val 2), fun a w R => ld_R (R.slot 4 rfl) (R.keep ow4 trivial) rfl rfl rfl rfl rfl rfl rfl rfl, fun a w R => cl_t (enter_at Tryd.func12) (R.val 4) (Right_is hbn hbd t2_.out _), fun a w R => notb (R.val 5), fun a w R => pickn (R.val 3) (R.val 6), fun a w R => mv (R.val 7), fun a w R => ld_R (R.slot 5 rfl) (R.keep ow5 trivial) rfl rfl rfl rfl rfl rfl rfl rfl, fun a w R => cl_t (enter_at Tryd.func12) (R.val 9) (Right_is hcn hcd t3_.out _), fun a w R => notb (R.val 10), fun a w R => pickn (R.val 8) (R.val 11), trivial⟩ (fun act_ W3 I => ?_)
        rw [I.act [(29, .agg #[.int .u64 (L0 an), .int .u64 (L1 an), .int .u64 (L2 an), .int .u64 (L3 an), .int .u64 (L0 ad), .int .u64 (L1 ad), .int .u64 (L2 ad), .int .u64 (L3 ad)]), (30, .bool true), (31, .bool false), (32, .bool false), (33, .agg #[.int .u64 (L0 bn), .int .u64 (L1 bn), .int .u64 (L2 bn), .int .u64 (L3 bn), .int .u64 (L0 bd), .int .u64 (L1 bd), .int .u64 (L2 bd), .int .u64 (L3 bd)]), (34, .bool true), (35, .bool false), (36, .bool false), (37, .bool false), (38, .agg #[.int .u64 (L0 cn), .int .u64 (L1 cn), .int .u64 (L2 cn), .int .u64 (L3 cn), .int .u64 (L0 cd), .int .u64 (L1 cd), .int .u64 (L2 cd), .int .u64 (L3 cd)]), (39, .bool true), (40, .bool false), (41, .bool false)]
          ⟨I.val 0, I.val 1, I.val 2, I.val 3, I.val 4, I.val 5, I.val 6, I.val 7, I.val 8, I.val 9, I.val 10, I.val 11, I.val 12, trivial⟩ rfl]
        have sW3 : W2.heap.size ≤ W3.heap.size := I.below.size
        replace ow3 := I.keep ow3 trivial
        replace ow4 := I.keep ow4 trivial
        replace ow5 := I.keep ow5 trivial
        have hW3 : Below w.heap.size w W3 := then_ hW2 I.below hW2.size
        clear I
        simp only [List.foldl_cons, List.foldl_nil, List.setIfInBounds_toArray, List.set_cons_zero, List.set_cons_succ]
        go_upto_region 6 with fail
        refine region_memo_f (B := W3.heap.size) (L := .val (.agg #[.int .u64 (L0 an), .int .u64 (L1 an), .int .u64 (L2 an), .int .u64 (L3 an), .int .u64 (L0 ad), .int .u64 (L1 ad), .int .u64 (L2 ad), .int .u64 (L3 ad)]) :: .val (.agg #[.int .u64 (L0 bn), .int .u64 (L1 bn), .int .u64 (L2 bn), .int .u64 (L3 bn), .int .u64 (L0 bd), .int .u64 (L1 bd), .int .u64 (L2 bd), .int .u64 (L3 bd)]) :: .val (.tuple #[.agg #[.int .u64 (L0 p), .int .u64 (L1 p), .int .u64 (L2 p), .int .u64 (L3 p), .int .u64 (L0 q), .int .u64 (L1 q), .int .u64 (L2 q), .int .u64 (L3 q)], .int .i64 er]) :: .val (.tuple #[.agg #[.int .u64 (L0 p), .int .u64 (L1 p), .int .u64 (L2 p), .int .u64 (L3 p), .int .u64 (L0 q), .int .u64 (L1 q), .int .u64 (L2 q), .int .u64 (L3 q)], .int .i64 er]) :: .val (.agg #[.int .u64 (L0 p), .int .u64 (L1 p), .int .u64 (L2 p), .int .u64 (L3 p), .int .u64 (L0 q), .int .u64 (L1 q), .int .u64 (L2 q), .int .u64 (L3 q)]) :: .val (.int .i64 er) :: .blk 26 8 :: .put 8 26 #[.int .u64 (L0 p), .int .u64 (L1 p), .int .u64 (L2 p), .int .u64 (L3 p), .int .u64 (L0 q), .int .u64 (L1 q), .int .u64 (L2 q), .int .u64 (L3 q)] :: .val (.int .i64 er) :: []) (by kernel_rfl) (Nat.le_refl _) ((by exact trivial))
          ⟨fun a w R => ld_R (R.slot 3 rfl) (R.keep ow3 trivial) rfl rfl rfl rfl rfl rfl rfl rfl, fun a w R => ld_R (R.slot 4 rfl) (R.keep ow4 trivial) rfl rfl rfl rfl rfl rfl rfl rfl, fun a w R => cl_tt (enter_at Tryd.func13) (R.val 0) (R.val 1) (SU.out _), fun a w R => mv (R.val 2), fun a w R => ex0 (R.val 3), fun a w R => ex1 (R.val 3), fun a w R => al_R, fun a w R => sb_R (R.dep 6) (R.val 4), fun a w R => asg (R.val 5), trivial⟩ (fun act_ W4 I => ?_)
        obtain ⟨gb8, ew8, lw8, ow8⟩ := I.put 7 rfl rfl
        rw [I.act [(43, .agg #[.int .u64 (L0 an), .int .u64 (L1 an), .int .u64 (L2 an), .int .u64 (L3 an), .int .u64 (L0 ad), .int .u64 (L1 ad), .int .u64 (L2 ad), .int .u64 (L3 ad)]), (44, .agg #[.int .u64 (L0 bn), .int .u64 (L1 bn), .int .u64 (L2 bn), .int .u64 (L3 bn), .int .u64 (L0 bd), .int .u64 (L1 bd), .int .u64 (L2 bd), .int .u64 (L3 bd)]), (45, .tuple #[.agg #[.int .u64 (L0 p), .int .u64 (L1 p), .int .u64 (L2 p), .int .u64 (L3 p), .int .u64 (L0 q), .int .u64 (L1 q), .int .u64 (L2 q), .int .u64 (L3 q)], .int .i64 er]), (42, .tuple #[.agg #[.int .u64 (L0 p), .int .u64 (L1 p), .int .u64 (L2 p), .int .u64 (L3 p), .int .u64 (L0 q), .int .u64 (L1 q), .int .u64 (L2 q), .int .u64 (L3 q)], .int .i64 er]), (46, .agg #[.int .u64 (L0 p), .int .u64 (L1 p), .int .u64 (L2 p), .int .u64 (L3 p), .int .u64 (L0 q), .int .u64 (L1 q), .int .u64 (L2 q), .int .u64 (L3 q)]), (47, .int .i64 er), (8, .pointer (some ⟨gb8, 0, none⟩)), (9, .int .i64 er)]
          ⟨I.val 0, I.val 1, I.val 2, I.val 3, I.val 4, I.val 5, ew8, I.val 8, trivial⟩ rfl]
        change W3.heap.size ≤ gb8 at lw8
        have sW4 : W3.heap.size ≤ W4.heap.size := I.below.size
        replace ow3 := I.keep ow3 trivial
        replace ow4 := I.keep ow4 trivial
        replace ow5 := I.keep ow5 trivial
        have hW4 : Below w.heap.size w W4 := then_ hW3 I.below hW3.size
        clear ew8
        clear I
        simp only [List.foldl_cons, List.foldl_nil, List.setIfInBounds_toArray, List.set_cons_zero, List.set_cons_succ]
        rcases Bool.eq_false_or_eq_true ((er == 0)) with t4 | t4
        · have t4_ := Lib.hid t4
          clear t4
          go_upto_region 7 with fail
          refine region_memo_f (B := W4.heap.size) (L := .val (.int .i64 er) :: .val (.bool true) :: .val (.bool true) :: .val (.agg #[.int .u64 (L0 p), .int .u64 (L1 p), .int .u64 (L2 p), .int .u64 (L3 p), .int .u64 (L0 q), .int .u64 (L1 q), .int .u64 (L2 q), .int .u64 (L3 q)]) :: .val (.int .i64 x) :: .val (.int .i64 x) :: .val (.bool false) :: .val (.bool false) :: []) (by kernel_rfl) (Nat.le_refl _) ((by exact trivial))
            ⟨fun a w R => mv (R.slot 9 rfl), fun a w R => c_eql_tk (R.val 0) (Tryd.underlying27) t4_.out, fun a w R => mv (R.val 1), fun a w R => ld_R (R.slot 8 rfl) (R.keep ow8 trivial) rfl rfl rfl rfl rfl rfl rfl rfl, fun a w R => cl_t (enter_at Tryd.func16) (R.val 3) (SG.out t1_.out t2_.out t4_.out _), fun a w R => mv (R.slot 7 rfl), fun a w R => c_neq_tt (R.val 4) (R.val 5) (Tryd.underlying3) (by simp), fun a w R => pickt (R.val 2) (R.val 6), trivial⟩ (fun act_ W5 I => ?_)
          rw [I.act [(48, .int .i64 er), (49, .bool true), (50, .bool true), (51, .agg #[.int .u64 (L0 p), .int .u64 (L1 p), .int .u64 (L2 p), .int .u64 (L3 p), .int .u64 (L0 q), .int .u64 (L1 q), .int .u64 (L2 q), .int .u64 (L3 q)]), (52, .int .i64 x), (53, .int .i64 x), (54, .bool false), (55, .bool false)]
            ⟨I.val 0, I.val 1, I.val 2, I.val 3, I.val 4, I.val 5, I.val 6, I.val 7, trivial⟩ rfl]
          have sW5 : W4.heap.size ≤ W5.heap.size := I.below.size
          replace ow3 := I.keep ow3 trivial
          replace ow4 := I.keep ow4 trivial
          replace ow5 := I.keep ow5 trivial
          replace ow8 := I.keep ow8 trivial
          have hW5 : Below w.heap.size w W5 := then_ hW4 I.below hW4.size
          clear I
          simp only [List.foldl_cons, List.foldl_nil, List.setIfInBounds_toArray, List.set_cons_zero, List.set_cons_succ]
          rcases Bool.eq_false_or_eq_true ((x == 0)) with t5 | t5
          · have t5_ := Lib.hid t5
            clear t5
            rcases Bool.eq_false_or_eq_true (decide (0 < x)) with t6 | t6
            · have t6_ := Lib.hid t6
              clear t6
              go_upto_region 9 with fail
              refine region_memo_f (B := W5.heap.size) (L := .val (.int .i64 x) :: .val (.bool true) :: .val (.agg #[.int .u64 (L0 an), .int .u64 (L1 an), .int .u64 (L2 an), .int .u64 (L3 an), .int .u64 (L0 ad), .int .u64 (L1 ad), .int .u64 (L2 ad), .int .u64 (L3 ad)]) :: .val (.agg #[.int .u64 (L0 bn), .int .u64 (L1 bn), .int .u64 (L2 bn), .int .u64 (L3 bn), .int .u64 (L0 bd), .int .u64 (L1 bd), .int .u64 (L2 bd), .int .u64 (L3 bd)]) :: .val (.bool true) :: .val (.bool true) :: .val (.bool true) :: .val (.int .i64 x) :: .val (.bool true) :: .val (.bool true) :: .skip :: .skip :: .skip :: .skip :: .val (.bool true) :: .val (.bool true) :: .skip :: .skip :: .skip :: .skip :: .val (.bool true) :: .val (.bool true) :: .val (.bool true) :: []) (by kernel_rfl) (Nat.le_refl _) ((by exact trivial))
                ⟨fun a w R => mv (R.slot 7 rfl), fun a w R => c_eql_tk (R.val 0) (Tryd.underlying3) t5_.out, fun a w R => ld_R (R.slot 3 rfl) (R.keep ow3 trivial) rfl rfl rfl rfl rfl rfl rfl rfl, fun a w R => ld_R (R.slot 4 rfl) (R.keep ow4 trivial) rfl rfl rfl rfl rfl rfl rfl rfl, fun a w R => (e_eql_R (R.val 2) (R.val 3) (fun w => (eq_Ratio han hbn had hbd w).trans (by rw [HEQ.out t1_.out t2_.out, t5_.out]))), fun a w R => cb_eql_tt (R.val 1) (R.val 4) rfl, fun a w R => mv (R.val 5), fun a w R => mv (R.slot 7 rfl), fun a w R => c_gtr_tk (R.val 7) (Tryd.underlying3) t6_.out, fun a w R => mv (R.val 8), fun a w R => True.intro, fun a w R => True.intro, fun a w R => True.intro, fun a w R => True.intro, fun a w R => picko (R.val 9) (R.goneS 13), fun a w R => mv (R.val 14), fun a w R => True.intro, fun a w R => True.intro, fun a w R => True.intro, fun a w R => True.intro, fun a w R => picko (R.val 15) (R.goneS 19), fun a w R => pickt (R.val 6) (R.val 20), fun a w R => asg (R.val 21), trivial⟩ (fun act_ W6 I => ?_)
              rw [I.act [(56, .int .i64 x), (57, .bool true), (58, .agg #[.int .u64 (L0 an), .int .u64 (L1 an), .int .u64 (L2 an), .int .u64 (L3 an), .int .u64 (L0 ad), .int .u64 (L1 ad), .int .u64 (L2 ad), .int .u64 (L3 ad)]), (59, .agg #[.int .u64 (L0 bn), .int .u64 (L1 bn), .int .u64 (L2 bn), .int .u64 (L3 bn), .int .u64 (L0 bd), .int .u64 (L1 bd), .int .u64 (L2 bd), .int .u64 (L3 bd)]), (60, .bool true), (61, .bool true), (62, .bool true), (63, .int .i64 x), (64, .bool true), (65, .bool true), (66, undef), (67, undef), (68, undef), (69, undef), (70, .bool true), (71, .bool true), (72, undef), (73, undef), (74, undef), (75, undef), (76, .bool true), (77, .bool true), (6, .bool true)]
                ⟨I.val 0, I.val 1, I.val 2, I.val 3, I.val 4, I.val 5, I.val 6, I.val 7, I.val 8, I.val 9, I.gone 10, I.gone 11, I.gone 12, I.gone 13, I.val 14, I.val 15, I.gone 16, I.gone 17, I.gone 18, I.gone 19, I.val 20, I.val 21, I.val 22, trivial⟩ rfl]
              have sW6 : W5.heap.size ≤ W6.heap.size := I.below.size
              replace ow3 := I.keep ow3 trivial
              replace ow4 := I.keep ow4 trivial
              replace ow5 := I.keep ow5 trivial
              replace ow8 := I.keep ow8 trivial
              have hW6 : Below w.heap.size w W6 := then_ hW5 I.below hW5.size
              clear I
              simp only [List.foldl_cons, List.foldl_nil, List.setIfInBounds_toArray, List.set_cons_zero, List.set_cons_succ]
              clear ow3 ow4 ow5 ow8
              go_wp2
              try simp only [setCell_drawn]
              refine bodyPost_ret (by first | (simp [results, Tryd.results4, go_sem]; done) | (simp [results, Tryd.results4, go_sem]; rfl)) rfl ⟨?_, hW6⟩
              rfl
            · have t6_ := Lib.hid t6
              clear t6
              rcases Bool.eq_false_or_eq_true (decide (0 < u)) with t7 | t7
              · have t7_ := Lib.hid t7
                clear t7
                go_upto_region 9 with fail
                refine region_memo_f (B := W5.heap.size) (L := .val (.int .i64 x) :: .val (.bool true) :: .val (.agg #[.int .u64 (L0 an), .int .u64 (L1 an), .int .u64 (L2 an), .int .u64 (L3 an), .int .u64 (L0 ad), .int .u64 (L1 ad), .int .u64 (L2 ad), .int .u64 (L3 ad)]) :: .val (.agg #[.int .u64 (L0 bn), .int .u64 (L1 bn), .int .u64 (L2 bn), .int .u64 (L3 bn), .int .u64 (L0 bd), .int .u64 (L1 bd), .int .u64 (L2 bd), .int .u64 (L3 bd)]) :: .val (.bool true) :: .val (.bool true) :: .val (.bool true) :: .val (.int .i64 x) :: .val (.bool false) :: .val (.bool false) :: .val (.agg #[.int .u64 (L0 bn), .int .u64 (L1 bn), .int .u64 (L2 bn), .int .u64 (L3 bn), .int .u64 (L0 bd), .int .u64 (L1 bd), .int .u64 (L2 bd), .int .u64 (L3 bd)]) :: .val (.agg #[.int .u64 (L0 cn), .int .u64 (L1 cn), .int .u64 (L2 cn), .int .u64 (L3 cn), .int .u64 (L0 cd), .int .u64 (L1 cd), .int .u64 (L2 cd), .int .u64 (L3 cd)]) :: .val (.int .i64 u) :: .val (.bool true) :: .val (.bool true) :: .val (.bool true) :: .skip :: .skip :: .skip :: .skip :: .val (.bool true) :: .val (.bool true) :: .val (.bool true) :: []) (by kernel_rfl) (Nat.le_refl _) ((by exact trivial))
                  ⟨fun a w R => mv (R.slot 7 rfl), fun a w R => c_eql_tk (R.val 0) (Tryd.underlying3) t5_.out, fun a w R => ld_R (R.slot 3 rfl) (R.keep ow3 trivial) rfl rfl rfl rfl rfl rfl rfl rfl, fun a w R => ld_R (R.slot 4 rfl) (R.keep ow4 trivial) rfl rfl rfl rfl rfl rfl rfl rfl, fun a w R => (e_eql_R (R.val 2) (R.val 3) (fun w => (eq_Ratio han hbn had hbd w).trans (by rw [HEQ.out t1_.out t2_.out, t5_.out]))), fun a w R => cb_eql_tt (R.val 1) (R.val 4) rfl, fun a w R => mv (R.val 5), fun a w R => mv (R.slot 7 rfl), fun a w R => c_gtr_tk (R.val 7) (Tryd.underlying3) t6_.out, fun a w R => mv (R.val 8), fun a w R => ld_R (R.slot 4 rfl) (R.keep ow4 trivial) rfl rfl rfl rfl rfl rfl rfl rfl, fun a w R => ld_R (R.slot 5 rfl) (R.keep ow5 trivial) rfl rfl rfl rfl rfl rfl rfl rfl, fun a w R => cl_tt (enter_at Tryd.func15) (R.val 10) (R.val 11) (CBC.out _), fun a w R => c_gtr_tk (R.val 12) (Tryd.underlying3) t7_.out, fun a w R => pickn (R.val 9) (R.val 13), fun a w R => mv (R.val 14), fun a w R => True.intro, fun a w R => True.intro, fun a w R => True.intro, fun a w R => True.intro, fun a w R => picko (R.val 15) (R.goneS 19), fun a w R => pickt (R.val 6) (R.val 20), fun a w R => asg (R.val 21), trivial⟩ (fun act_ W6 I => ?_)
                rw [I.act [(56, .int .i64 x), (57, .bool true), (58, .agg #[.int .u64 (L0 an), .int .u64 (L1 an), .int .u64 (L2 an), .int .u64 (L3 an), .int .u64 (L0 ad), .int .u64 (L1 ad), .int .u64 (L2 ad), .int .u64 (L3 ad)]), (59, .agg #[.int .u64 (L0 bn), .int .u64 (L1 bn), .int .u64 (L2 bn), .int .u64 (L3 bn), .int .u64 (L0 bd), .int .u64 (L1 bd), .int .u64 (L2 bd), .int .u64 (L3 bd)]), (60, .bool true), (61, .bool true), (62, .bool true), (63, .int .i64 x), (64, .bool false), (65, .bool false), (66, .agg #[.int .u64 (L0 bn), .int .u64 (L1 bn), .int .u64 (L2 bn), .int .u64 (L3 bn), .int .u64 (L0 bd), .int .u64 (L1 bd), .int .u64 (L2 bd), .int .u64 (L3 bd)]), (67, .agg #[.int .u64 (L0 cn), .int .u64 (L1 cn), .int .u64 (L2 cn), .int .u64 (L3 cn), .int .u64 (L0 cd), .int .u64 (L1 cd), .int .u64 (L2 cd), .int .u64 (L3 cd)]), (68, .int .i64 u), (69, .bool true), (70, .bool true), (71, .bool true), (72, undef), (73, undef), (74, undef), (75, undef), (76, .bool true), (77, .bool true), (6, .bool true)]
                  ⟨I.val 0, I.val 1, I.val 2, I.val 3, I.val 4, I.val 5, I.val 6, I.val 7, I.val 8, I.val 9, I.val 10, I.val 11, I.val 12, I.val 13, I.val 14, I.val 15, I.gone 16, I.gone 17, I.gone 18, I.gone 19, I.val 20, I.val 21, I.val 22, trivial⟩ rfl]
                have sW6 : W5.heap.size ≤ W6.heap.size := I.below.size
                replace ow3 := I.keep ow3 trivial
                replace ow4 := I.keep ow4 trivial
                replace ow5 := I.keep ow5 trivial
                replace ow8 := I.keep ow8 trivial
                have hW6 : Below w.heap.size w W6 := then_ hW5 I.below hW5.size
                clear I
                simp only [List.foldl_cons, List.foldl_nil, List.setIfInBounds_toArray, List.set_cons_zero, List.set_cons_succ]
                clear ow3 ow4 ow5 ow8
                go_wp2
                try simp only [setCell_drawn]
                refine bodyPost_ret (by first | (simp [results, Tryd.results4, go_sem]; done) | (simp [results, Tryd.results4, go_sem]; rfl)) rfl ⟨?_, hW6⟩
                rfl
              · have t7_ := Lib.hid t7
                clear t7
                rcases Bool.eq_false_or_eq_true (decide (z ≤ 0)) with t8 | t8
                · have t8_ := Lib.hid t8
                  clear t8
                  go_upto_region 9 with fail
                  refine region_memo_f (B := W5.heap.size) (L := .val (.int .i64 x) :: .val (.bool true) :: .val (.agg #[.int .u64 (L0 an), .int .u64 (L1 an), .int .u64 (L2 an), .int .u64 (L3 an), .int .u64 (L0 ad), .int .u64 (L1 ad), .int .u64 (L2 ad), .int .u64 (L3 ad)]) :: .val (.agg #[.int .u64 (L0 bn), .int .u64 (L1 bn), .int .u64 (L2 bn), .int .u64 (L3 bn), .int .u64 (L0 bd), .int .u64 (L1 bd), .int .u64 (L2 bd), .int .u64 (L3 bd)]) :: .val (.bool true) :: .val (.bool true) :: .val (.bool true) :: .val (.int .i64 x) :: .val (.bool false) :: .val (.bool false) :: .val (.agg #[.int .u64 (L0 bn), .int .u64 (L1 bn), .int .u64 (L2 bn), .int .u64 (L3 bn), .int .u64 (L0 bd), .int .u64 (L1 bd), .int .u64 (L2 bd), .int .u64 (L3 bd)]) :: .val (.agg #[.int .u64 (L0 cn), .int .u64 (L1 cn), .int .u64 (L2 cn), .int .u64 (L3 cn), .int .u64 (L0 cd), .int .u64 (L1 cd), .int .u64 (L2 cd), .int .u64 (L3 cd)]) :: .val (.int .i64 u) :: .val (.bool false) :: .val (.bool false) :: .val (.bool false) :: .val (.agg #[.int .u64 (L0 an), .int .u64 (L1 an), .int .u64 (L2 an), .int .u64 (L3 an), .int .u64 (L0 ad), .int .u64 (L1 ad), .int .u64 (L2 ad), .int .u64 (L3 ad)]) :: .val (.agg #[.int .u64 (L0 cn), .int .u64 (L1 cn), .int .u64 (L2 cn), .int .u64 (L3 cn), .int .u64 (L0 cd), .int .u64 (L1 cd), .int .u64 (L2 cd), .int .u64 (L3 cd)]) :: .val (.int .i64 z) :: .val (.bool true) :: .val (.bool true) :: .val (.bool true) :: .val (.bool true) :: []) (by kernel_rfl) (Nat.le_refl _) ((by exact trivial))
                    ⟨fun a w R => mv (R.slot 7 rfl), fun a w R => c_eql_tk (R.val 0) (Tryd.underlying3) t5_.out, fun a w R => ld_R (R.slot 3 rfl) (R.keep ow3 trivial) rfl rfl rfl rfl rfl rfl rfl rfl, fun a w R => ld_R (R.slot 4 rfl) (R.keep ow4 trivial) rfl rfl rfl rfl rfl rfl rfl rfl, fun a w R => (e_eql_R (R.val 2) (R.val 3) (fun w => (eq_Ratio han hbn had hbd w).trans (by rw [HEQ.out t1_.out t2_.out, t5_.out]))), fun a w R => cb_eql_tt (R.val 1) (R.val 4) rfl, fun a w R => mv (R.val 5), fun a w R => mv (R.slot 7 rfl), fun a w R => c_gtr_tk (R.val 7) (Tryd.underlying3) t6_.out, fun a w R => mv (R.val 8), fun a w R => ld_R (R.slot 4 rfl) (R.keep ow4 trivial) rfl rfl rfl rfl rfl rfl rfl rfl, fun a w R => ld_R (R.slot 5 rfl) (R.keep ow5 trivial) rfl rfl rfl rfl rfl rfl rfl rfl, fun a w R => cl_tt (enter_at Tryd.func15) (R.val 10) (R.val 11) (CBC.out _), fun a w R => c_gtr_tk (R.val 12) (Tryd.underlying3) t7_.out, fun a w R => pickn (R.val 9) (R.val 13), fun a w R => mv (R.val 14), fun a w R => ld_R (R.slot 3 rfl) (R.keep ow3 trivial) rfl rfl rfl rfl rfl rfl rfl rfl, fun a w R => ld_R (R.slot 5 rfl) (R.keep ow5 trivial) rfl rfl rfl rfl rfl rfl rfl rfl, fun a w R => cl_tt (enter_at Tryd.func15) (R.val 16) (R.val 17) (CAC.out _), fun a w R => c_leq_tk (R.val 18) (Tryd.underlying3) t8_.out, fun a w R => pickn (R.val 15) (R.val 19), fun a w R => pickt (R.val 6) (R.val 20), fun a w R => asg (R.val 21), trivial⟩ (fun act_ W6 I => ?_)
                  rw [I.act [(56, .int .i64 x), (57, .bool true), (58, .agg #[.int .u64 (L0 an), .int .u64 (L1 an), .int .u64 (L2 an), .int .u64 (L3 an), .int .u64 (L0 ad), .int .u64 (L1 ad), .int .u64 (L2 ad), .int .u64 (L3 ad)]), (59, .agg #[.int .u64 (L0 bn), .int .u64 (L1 bn), .int .u64 (L2 bn), .int .u64 (L3 bn), .int .u64 (L0 bd), .int .u64 (L1 bd), .int .u64 (L2 bd), .int .u64 (L3 bd)]), (60, .bool true), (61, .bool true), (62, .bool true), (63, .int .i64 x), (64, .bool false), (65, .bool false), (66, .agg #[.int .u64 (L0 bn), .int .u64 (L1 bn), .int .u64 (L2 bn), .int .u64 (L3 bn), .int .u64 (L0 bd), .int .u64 (L1 bd), .int .u64 (L2 bd), .int .u64 (L3 bd)]), (67, .agg #[.int .u64 (L0 cn), .int .u64 (L1 cn), .int .u64 (L2 cn), .int .u64 (L3 cn), .int .u64 (L0 cd), .int .u64 (L1 cd), .int .u64 (L2 cd), .int .u64 (L3 cd)]), (68, .int .i64 u), (69, .bool false), (70, .bool false), (71, .bool false), (72, .agg #[.int .u64 (L0 an), .int .u64 (L1 an), .int .u64 (L2 an), .int .u64 (L3 an), .int .u64 (L0 ad), .int .u64 (L1 ad), .int .u64 (L2 ad), .int .u64 (L3 ad)]), (73, .agg #[.int .u64 (L0 cn), .int .u64 (L1 cn), .int .u64 (L2 cn), .int .u64 (L3 cn), .int .u64 (L0 cd), .int .u64 (L1 cd), .int .u64 (L2 cd), .int .u64 (L3 cd)]), (74, .int .i64 z), (75, .bool true), (76, .bool true), (77, .bool true), (6, .bool true)]
                    ⟨I.val 0, I.val 1, I.val 2, I.val 3, I.val 4, I.val 5, I.val 6, I.val 7, I.val 8, I.val 9, I.val 10, I.val 11, I.val 12, I.val 13, I.val 14, I.val 15, I.val 16, I.val 17, I.val 18, I.val 19, I.val 20, I.val 21, I.val 22, trivial⟩ rfl]
                  have sW6 : W5.heap.size ≤ W6.heap.size := I.below.size
                  replace ow3 := I.keep ow3 trivial
                  replace ow4 := I.keep ow4 trivial
                  replace ow5 := I.keep ow5 trivial
                  replace ow8 := I.keep ow8 trivial
                  have hW6 : Below w.heap.size w W6 := then_ hW5 I.below hW5.size
                  clear I
                  simp only [List.foldl_cons, List.foldl_nil, List.setIfInBounds_toArray, List.set_cons_zero, List.set_cons_succ]
                  clear ow3 ow4 ow5 ow8
                  go_wp2
                  try simp only [setCell_drawn]
                  refine bodyPost_ret (by first | (simp [results, Tryd.results4, go_sem]; done) | (simp [results, Tryd.results4, go_sem]; rfl)) rfl ⟨?_, hW6⟩
                  rfl
                · have t8_ := Lib.hid t8
                  clear t8
                  exact Bool.noConfusion ((TR.out t1_.out t2_.out t3_.out t6_.out t7_.out).symm.trans t8_.out)
          · have t5_ := Lib.hid t5
            clear t5
            rcases Bool.eq_false_or_eq_true (decide (0 < x)) with t9 | t9
            · have t9_ := Lib.hid t9
              clear t9
              go_upto_region 9 with fail
              refine region_memo_f (B := W5.heap.size) (L := .val (.int .i64 x) :: .val (.bool false) :: .val (.agg #[.int .u64 (L0 an), .int .u64 (L1 an), .int .u64 (L2 an), .int .u64 (L3 an), .int .u64 (L0 ad), .int .u64 (L1 ad), .int .u64 (L2 ad), .int .u64 (L3 ad)]) :: .val (.agg #[.int .u64 (L0 bn), .int .u64 (L1 bn), .int .u64 (L2 bn), .int .u64 (L3 bn), .int .u64 (L0 bd), .int .u64 (L1 bd), .int .u64 (L2 bd), .int .u64 (L3 bd)]) :: .val (.bool false) :: .val (.bool true) :: .val (.bool true) :: .val (.int .i64 x) :: .val (.bool true) :: .val (.bool true) :: .skip :: .skip :: .skip :: .skip :: .val (.bool true) :: .val (.bool true) :: .skip :: .skip :: .skip :: .skip :: .val (.bool true) :: .val (.bool true) :: .val (.bool true) :: []) (by kernel_rfl) (Nat.le_refl _) ((by exact trivial))
                ⟨fun a w R => mv (R.slot 7 rfl), fun a w R => c_eql_tk (R.val 0) (Tryd.underlying3) t5_.out, fun a w R => ld_R (R.slot 3 rfl) (R.keep ow3 trivial) rfl rfl rfl rfl rfl rfl rfl rfl, fun a w R => ld_R (R.slot 4 rfl) (R.keep ow4 trivial) rfl rfl rfl rfl rfl rfl rfl rfl, fun a w R => (e_eql_R (R.val 2) (R.val 3) (fun w => (eq_Ratio han hbn had hbd w).trans (by rw [HEQ.out t1_.out t2_.out, t5_.out]))), fun a w R => cb_eql_tt (R.val 1) (R.val 4) rfl, fun a w R => mv (R.val 5), fun a w R => mv (R.slot 7 rfl), fun a w R => c_gtr_tk (R.val 7) (Tryd.underlying3) t9_.out, fun a w R => mv (R.val 8), fun a w R => True.intro, fun a w R => True.intro, fun a w R => True.intro, fun a w R => True.intro, fun a w R => picko (R.val 9) (R.goneS 13), fun a w R => mv (R.val 14), fun a w R => True.intro, fun a w R => True.intro, fun a w R => True.intro, fun a w R => True.intro, fun a w R => picko (R.val 15) (R.goneS 19), fun a w R => pickt (R.val 6) (R.val 20), fun a w R => asg (R.val 21), trivial⟩ (fun act_ W6 I => ?_)
              rw [I.act [(56, .int .i64 x), (57, .bool false), (58, .agg #[.int .u64 (L0 an), .int .u64 (L1 an), .int .u64 (L2 an), .int .u64 (L3 an), .int .u64 (L0 ad), .int .u64 (L1 ad), .int .u64 (L2 ad), .int .u64 (L3 ad)]), (59, .agg #[.int .u64 (L0 bn), .int .u64 (L1 bn), .int .u64 (L2 bn), .int .u64 (L3 bn), .int .u64 (L0 bd), .int .u64 (L1 bd), .int .u64 (L2 bd), .int .u64 (L3 bd)]), (60, .bool false), (61, .bool true), (62, .bool true), (63, .int .i64 x), (64, .bool true), (65, .bool true), (66, undef), (67, undef), (68, undef), (69, undef), (70, .bool true), (71, .bool true), (72, undef), (73, undef), (74, undef), (75, undef), (76, .bool true), (77, .bool true), (6, .bool true)]
                ⟨I.val 0, I.val 1, I.val 2, I.val 3, I.val 4, I.val 5, I.val 6, I.val 7, I.val 8, I.val 9, I.gone 10, I.gone 11, I.gone 12, I.gone 13, I.val 14, I.val 15, I.gone 16, I.gone 17, I.gone 18, I.gone 19, I.val 20, I.val 21, I.val 22, trivial⟩ rfl]
              have sW6 : W5.heap.size ≤ W6.heap.size := I.below.size
              replace ow3 := I.keep ow3 trivial
              replace ow4 := I.keep ow4 trivial
              replace ow5 := I.keep ow5 trivial
              replace ow8 := I.keep ow8 trivial
              have hW6 : Below w.heap.size w W6 := then_ hW5 I.below hW5.size
              clear I
              simp only [List.foldl_cons, List.foldl_nil, List.setIfInBounds_toArray, List.set_cons_zero, List.set_cons_succ]
              clear ow3 ow4 ow5 ow8
              go_wp2
              try simp only [setCell_drawn]
              refine bodyPost_ret (by first | (simp [results, Tryd.results4, go_sem]; done) | (simp [results, Tryd.results4, go_sem]; rfl)) rfl ⟨?_, hW6⟩
              rfl
            · have t9_ := Lib.hid t9
              clear t9
              rcases Bool.eq_false_or_eq_true (decide (0 < u)) with t10 | t10
              · have t10_ := Lib.hid t10
                clear t10
                go_upto_region 9 with fail
                refine region_memo_f (B := W5.heap.size) (L := .val (.int .i64 x) :: .val (.bool false) :: .val (.agg #[.int .u64 (L0 an), .int .u64 (L1 an), .int .u64 (L2 an), .int .u64 (L3 an), .int .u64 (L0 ad), .int .u64 (L1 ad), .int .u64 (L2 ad), .int .u64 (L3 ad)]) :: .val (.agg #[.int .u64 (L0 bn), .int .u64 (L1 bn), .int .u64 (L2 bn), .int .u64 (L3 bn), .int .u64 (L0 bd), .int .u64 (L1 bd), .int .u64 (L2 bd), .int .u64 (L3 bd)]) :: .val (.bool false) :: .val (.bool true) :: .val (.bool true) :: .val (.int .i64 x) :: .val (.bool false) :: .val (.bool false) :: .val (.agg #[.int .u64 (L0 bn), .int .u64 (L1 bn), .int .u64 (L2 bn), .int .u64 (L3 bn), .int .u64 (L0 bd), .int .u64 (L1 bd), .int .u64 (L2 bd), .int .u64 (L3 bd)]) :: .val (.agg #[.int .u64 (L0 cn), .int .u64 (L1 cn), .int .u64 (L2 cn), .int .u64 (L3 cn), .int .u64 (L0 cd), .int .u64 (L1 cd), .int .u64 (L2 cd), .int .u64 (L3 cd)]) :: .val (.int .i64 u) :: .val (.bool true) :: .val (.bool true) :: .val (.bool true) :: .skip :: .skip :: .skip :: .skip :: .val (.bool true) :: .val (.bool true) :: .val (.bool true) :: []) (by kernel_rfl) (Nat.le_refl _) ((by exact trivial))
                  ⟨fun a w R => mv (R.slot 7 rfl), fun a w R => c_eql_tk (R.val 0) (Tryd.underlying3) t5_.out, fun a w R => ld_R (R.slot 3 rfl) (R.keep ow3 trivial) rfl rfl rfl rfl rfl rfl rfl rfl, fun a w R => ld_R (R.slot 4 rfl) (R.keep ow4 trivial) rfl rfl rfl rfl rfl rfl rfl rfl, fun a w R => (e_eql_R (R.val 2) (R.val 3) (fun w => (eq_Ratio han hbn had hbd w).trans (by rw [HEQ.out t1_.out t2_.out, t5_.out]))), fun a w R => cb_eql_tt (R.val 1) (R.val 4) rfl, fun a w R => mv (R.val 5), fun a w R => mv (R.slot 7 rfl), fun a w R => c_gtr_tk (R.val 7) (Tryd.underlying3) t9_.out, fun a w R => mv (R.val 8), fun a w R => ld_R (R.slot 4 rfl) (R.keep ow4 trivial) rfl rfl rfl rfl rfl rfl rfl rfl, fun a w R => ld_R (R.slot 5 rfl) (R.keep ow5 trivial) rfl rfl rfl rfl rfl rfl rfl rfl, fun a w R => cl_tt (enter_at Tryd.func15) (R.val 10) (R.val 11) (CBC.out _), fun a w R => c_gtr_tk (R.val 12) (Tryd.underlying3) t10_.out, fun a w R => pickn (R.val 9) (R.val 13), fun a w R => mv (R.val 14), fun a w R => True.intro, fun a w R => True.intro, fun a w R => True.intro, fun a w R => True.intro, fun a w R => picko (R.val 15) (R.goneS 19), fun a w R => pickt (R.val 6) (R.val 20), fun a w R => asg (R.val 21), trivial⟩ (fun act_ W6 I => ?_)
                rw [I.act [(56, .int .i64 x), (57, .bool false), (58, .agg #[.int .u64 (L0 an), .int .u64 (L1 an), .int .u64 (L2 an), .int .u64 (L3 an), .int .u64 (L0 ad), .int .u64 (L1 ad), .int .u64 (L2 ad), .int .u64 (L3 ad)]), (59, .agg #[.int .u64 (L0 bn), .int .u64 (L1 bn), .int .u64 (L2 bn), .int .u64 (L3 bn), .int .u64 (L0 bd), .int .u64 (L1 bd), .int .u64 (L2 bd), .int .u64 (L3 bd)]), (60, .bool false), (61, .bool true), (62, .bool true), (63, .int .i64 x), (64, .bool false), (65, .bool false), (66, .agg #[.int .u64 (L0 bn), .int .u64 (L1 bn), .int .u64 (L2 bn), .int .u64 (L3 bn), .int .u64 (L0 bd), .int .u64 (L1 bd), .int .u64 (L2 bd), .int .u64 (L3 bd)]), (67, .agg #[.int .u64 (L0 cn), .int .u64 (L1 cn), .int .u64 (L2 cn), .int .u64 (L3 cn), .int .u64 (L0 cd), .int .u64 (L1 cd), .int .u64 (L2 cd), .int .u64 (L3 cd)]), (68, .int .i64 u), (69, .bool true), (70, .bool true), (71, .bool true), (72, undef), (73, undef), (74, undef), (75, undef), (76, .bool true), (77, .bool true), (6, .bool true)]
                  ⟨I.val 0, I.val 1, I.val 2, I.val 3, I.val 4, I.val 5, I.val 6, I.val 7, I.val 8, I.val 9, I.val 10, I.val 11, I.val 12, I.val 13, I.val 14, I.val 15, I.gone 16, I.gone 17, I.gone 18, I.gone 19, I.val 20, I.val 21, I.val 22, trivial⟩ rfl]
                have sW6 : W5.heap.size ≤ W6.heap.size := I.below.size
                replace ow3 := I.keep ow3 trivial
                replace ow4 := I.keep ow4 trivial
                replace ow5 := I.keep ow5 trivial
                replace ow8 := I.keep ow8 trivial
                have hW6 : Below w.heap.size w W6 := then_ hW5 I.below hW5.size
                clear I
                simp only [List.foldl_cons, List.foldl_nil, List.setIfInBounds_toArray, List.set_cons_zero, List.set_cons_succ]
                clear ow3 ow4 ow5 ow8
                go_wp2
                try simp only [setCell_drawn]
                refine bodyPost_ret (by first | (simp [results, Tryd.results4, go_sem]; done) | (simp [results, Tryd.results4, go_sem]; rfl)) rfl ⟨?_, hW6⟩
                rfl
              · have t10_ := Lib.hid t10
                clear t10
                rcases Bool.eq_false_or_eq_true (decide (z ≤ 0)) with t11 | t11
                · have t11_ := Lib.hid t11
                  clear t11
                  go_upto_region 9 with fail
                  refine region_memo_f (B := W5.heap.size) (L := .val (.int .i64 x) :: .val (.bool false) :: .val (.agg #[.int .u64 (L0 an), .int .u64 (L1 an), .int .u64 (L2 an), .int .u64 (L3 an), .int .u64 (L0 ad), .int .u64 (L1 ad), .int .u64 (L2 ad), .int .u64 (L3 ad)]) :: .val (.agg #[.int .u64 (L0 bn), .int .u64 (L1 bn), .int .u64 (L2 bn), .int .u64 (L3 bn), .int .u64 (L0 bd), .int .u64 (L1 bd), .int .u64 (L2 bd), .int .u64 (L3 bd)]) :: .val (.bool false) :: .val (.bool true) :: .val (.bool true) :: .val (.int .i64 x) :: .val (.bool false) :: .val (.bool false) :: .val (.agg #[.int .u64 (L0 bn), .int .u64 (L1 bn), .int .u64 (L2 bn), .int .u64 (L3 bn), .int .u64 (L0 bd), .int .u64 (L1 bd), .int .u64 (L2 bd), .int .u64 (L3 bd)]) :: .val (.agg #[.int .u64 (L0 cn), .int .u64 (L1 cn), .int .u64 (L2 cn), .int .u64 (L3 cn), .int .u64 (L0 cd), .int .u64 (L1 cd), .int .u64 (L2 cd), .int .u64 (L3 cd)]) :: .val (.int .i64 u) :: .val (.bool false) :: .val (.bool false) :: .val (.bool false) :: .val (.agg #[.int .u64 (L0 an), .int .u64 (L1 an), .int .u64 (L2 an), .int .u64 (L3 an), .int .u64 (L0 ad), .int .u64 (L1 ad), .int .u64 (L2 ad), .int .u64 (L3 ad)]) :: .val (.agg #[.int .u64 (L0 cn), .int .u64 (L1 cn), .int .u64 (L2 cn), .int .u64 (L3 cn), .int .u64 (L0 cd), .int .u64 (L1 cd), .int .u64 (L2 cd), .int .u64 (L3 cd)]) :: .val (.int .i64 z) :: .val (.bool true) :: .val (.bool true) :: .val (.bool true) :: .val (.bool true) :: []) (by kernel_rfl) (Nat.le_refl _) ((by exact trivial))
                    ⟨fun a w R => mv (R.slot 7 rfl), fun a w R => c_eql_tk (R.val 0) (Tryd.underlying3) t5_.out, fun a w R => ld_R (R.slot 3 rfl) (R.keep ow3 trivial) rfl rfl rfl rfl rfl rfl rfl rfl, fun a w R => ld_R (R.slot 4 rfl) (R.keep ow4 trivial) rfl rfl rfl rfl rfl rfl rfl rfl, fun a w R => (e_eql_R (R.val 2) (R.val 3) (fun w => (eq_Ratio han hbn had hbd w).trans (by rw [HEQ.out t1_.out t2_.out, t5_.out]))), fun a w R => cb_eql_tt (R.val 1) (R.val 4) rfl, fun a w R => mv (R.val 5), fun a w R => mv (R.slot 7 rfl), fun a w R => c_gtr_tk (R.val 7) (Tryd.underlying3) t9_.out, fun a w R => mv (R.val 8), fun a w R => ld_R (R.slot 4 rfl) (R.keep ow4 trivial) rfl rfl rfl rfl rfl rfl rfl rfl, fun a w R => ld_R (R.slot 5 rfl) (R.keep ow5 trivial) rfl rfl rfl rfl rfl rfl rfl rfl, fun a w R => cl_tt (enter_at Tryd.func15) (R.val 10) (R.val 11) (CBC.out _), fun a w R => c_gtr_tk (R.val 12) (Tryd.underlying3) t10_.out, fun a w R => pickn (R.val 9) (R.val 13), fun a w R => mv (R.val 14), fun a w R => ld_R (R.slot 3 rfl) (R.keep ow3 trivial) rfl rfl rfl rfl rfl rfl rfl rfl, fun a w R => ld_R (R.slot 5 rfl) (R.keep ow5 trivial) rfl rfl rfl rfl rfl rfl rfl rfl, fun a w R => cl_tt (enter_at Tryd.func15) (R.val 16) (R.val 17) (CAC.out _), fun a w R => c_leq_tk (R.val 18) (Tryd.underlying3) t11_.out, fun a w R => pickn (R.val 15) (R.val 19), fun a w R => pickt (R.val 6) (R.val 20), fun a w R => asg (R.val 21), trivial⟩ (fun act_ W6 I => ?_)
                  rw [I.act [(56, .int .i64 x), (57, .bool false), (58, .agg #[.int .u64 (L0 an), .int .u64 (L1 an), .int .u64 (L2 an), .int .u64 (L3 an), .int .u64 (L0 ad), .int .u64 (L1 ad), .int .u64 (L2 ad), .int .u64 (L3 ad)]), (59, .agg #[.int .u64 (L0 bn), .int .u64 (L1 bn), .int .u64 (L2 bn), .int .u64 (L3 bn), .int .u64 (L0 bd), .int .u64 (L1 bd), .int .u64 (L2 bd), .int .u64 (L3 bd)]), (60, .bool false), (61, .bool true), (62, .bool true), (63, .int .i64 x), (64, .bool false), (65, .bool false), (66, .agg #[.int .u64 (L0 bn), .int .u64 (L1 bn), .int .u64 (L2 bn), .int .u64 (L3 bn), .int .u64 (L0 bd), .int .u64 (L1 bd), .int .u64 (L2 bd), .int .u64 (L3 bd)]), (67, .agg #[.int .u64 (L0 cn), .int .u64 (L1 cn), .int .u64 (L2 cn), .int .u64 (L3 cn), .int .u64 (L0 cd), .int .u64 (L1 cd), .int .u64 (L2 cd), .int .u64 (L3 cd)]), (68, .int .i64 u), (69, .bool false), (70, .bool false), (71, .bool false), (72, .agg #[.int .u64 (L0 an), .int .u64 (L1 an), .int .u64 (L2 an), .int .u64 (L3 an), .int .u64 (L0 ad), .int .u64 (L1 ad), .int .u64 (L2 ad), .int .u64 (L3 ad)]), (73, .agg #[.int .u64 (L0 cn), .int .u64 (L1 cn), .int .u64 (L2 cn), .int .u64 (L3 cn), .int .u64 (L0 cd), .int .u64 (L1 cd), .int .u64 (L2 cd), .int .u64 (L3 cd)]), (74, .int .i64 z), (75, .bool true), (76, .bool true), (77, .bool true), (6, .bool true)]
                    ⟨I.val 0, I.val 1, I.val 2, I.val 3, I.val 4, I.val 5, I.val 6, I.val 7, I.val 8, I.val 9, I.val 10, I.val 11, I.val 12, I.val 13, I.val 14, I.val 15, I.val 16, I.val 17, I.val 18, I.val 19, I.val 20, I.val 21, I.val 22, trivial⟩ rfl]
                  have sW6 : W5.heap.size ≤ W6.heap.size := I.below.size
                  replace ow3 := I.keep ow3 trivial
                  replace ow4 := I.keep ow4 trivial
                  replace ow5 := I.keep ow5 trivial
                  replace ow8 := I.keep ow8 trivial
                  have hW6 : Below w.heap.size w W6 := then_ hW5 I.below hW5.size
                  clear I
                  simp only [List.foldl_cons, List.foldl_nil, List.setIfInBounds_toArray, List.set_cons_zero, List.set_cons_succ]
                  clear ow3 ow4 ow5 ow8
                  go_wp2
                  try simp only [setCell_drawn]
                  refine bodyPost_ret (by first | (simp [results, Tryd.results4, go_sem]; done) | (simp [results, Tryd.results4, go_sem]; rfl)) rfl ⟨?_, hW6⟩
                  rfl
                · have t11_ := Lib.hid t11
                  clear t11
                  exact Bool.noConfusion ((TR.out t1_.out t2_.out t3_.out t9_.out t10_.out).symm.trans t11_.out)
        · have t4_ := Lib.hid t4
          clear t4
          go_upto_region 7 with fail
          refine region_memo_f (B := W4.heap.size) (L := .val (.int .i64 er) :: .val (.bool false) :: .val (.bool false) :: .skip :: .skip :: .skip :: .skip :: .val (.bool false) :: []) (by kernel_rfl) (Nat.le_refl _) ((by exact trivial))
            ⟨fun a w R => mv (R.slot 9 rfl), fun a w R => c_eql_tk (R.val 0) (Tryd.underlying27) t4_.out, fun a w R => mv (R.val 1), fun a w R => True.intro, fun a w R => True.intro, fun a w R => True.intro, fun a w R => True.intro, fun a w R => pickf (R.val 2) (R.goneS 6), trivial⟩ (fun act_ W5 I => ?_)
          rw [I.act [(48, .int .i64 er), (49, .bool false), (50, .bool false), (51, undef), (52, undef), (53, undef), (54, undef), (55, .bool false)]
            ⟨I.val 0, I.val 1, I.val 2, I.gone 3, I.gone 4, I.gone 5, I.gone 6, I.val 7, trivial⟩ rfl]
          have sW5 : W4.heap.size ≤ W5.heap.size := I.below.size
          replace ow3 := I.keep ow3 trivial
          replace ow4 := I.keep ow4 trivial
          replace ow5 := I.keep ow5 trivial
          replace ow8 := I.keep ow8 trivial
          have hW5 : Below w.heap.size w W5 := then_ hW4 I.below hW4.size
          clear I
          simp only [List.foldl_cons, List.foldl_nil, List.setIfInBounds_toArray, List.set_cons_zero, List.set_cons_succ]
          rcases Bool.eq_false_or_eq_true ((x == 0)) with t12 | t12
          · have t12_ := Lib.hid t12
            clear t12
            rcases Bool.eq_false_or_eq_true (decide (0 < x)) with t13 | t13
            · have t13_ := Lib.hid t13
              clear t13
              go_upto_region 9 with fail
              refine region_memo_f (B := W5.heap.size) (L := .val (.int .i64 x) :: .val (.bool true) :: .val (.agg #[.int .u64 (L0 an), .int .u64 (L1 an), .int .u64 (L2 an), .int .u64 (L3 an), .int .u64 (L0 ad), .int .u64 (L1 ad), .int .u64 (L2 ad), .int .u64 (L3 ad)]) :: .val (.agg #[.int .u64 (L0 bn), .int .u64 (L1 bn), .int .u64 (L2 bn), .int .u64 (L3 bn), .int .u64 (L0 bd), .int .u64 (L1 bd), .int .u64 (L2 bd), .int .u64 (L3 bd)]) :: .val (.bool true) :: .val (.bool true) :: .val (.bool true) :: .val (.int .i64 x) :: .val (.bool true) :: .val (.bool true) :: .skip :: .skip :: .skip :: .skip :: .val (.bool true) :: .val (.bool true) :: .skip :: .skip :: .skip :: .skip :: .val (.bool true) :: .val (.bool true) :: .val (.bool true) :: []) (by kernel_rfl) (Nat.le_refl _) ((by exact trivial))
                ⟨fun a w R => mv (R.slot 7 rfl), fun a w R => c_eql_tk (R.val 0) (Tryd.underlying3) t12_.out, fun a w R => ld_R (R.slot 3 rfl) (R.keep ow3 trivial) rfl rfl rfl rfl rfl rfl rfl rfl, fun a w R => ld_R (R.slot 4 rfl) (R.keep ow4 trivial) rfl rfl rfl rfl rfl rfl rfl rfl, fun a w R => (e_eql_R (R.val 2) (R.val 3) (fun w => (eq_Ratio han hbn had hbd w).trans (by rw [HEQ.out t1_.out t2_.out, t12_.out]))), fun a w R => cb_eql_tt (R.val 1) (R.val 4) rfl, fun a w R => mv (R.val 5), fun a w R => mv (R.slot 7 rfl), fun a w R => c_gtr_tk (R.val 7) (Tryd.underlying3) t13_.out, fun a w R => mv (R.val 8), fun a w R => True.intro, fun a w R => True.intro, fun a w R => True.intro, fun a w R => True.intro, fun a w R => picko (R.val 9) (R.goneS 13), fun a w R => mv (R.val 14), fun a w R => True.intro, fun a w R => True.intro, fun a w R => True.intro, fun a w R => True.intro, fun a w R => picko (R.val 15) (R.goneS 19), fun a w R => pickt (R.val 6) (R.val 20), fun a w R => asg (R.val 21), trivial⟩ (fun act_ W6 I => ?_)
              rw [I.act [(56, .int .i64 x), (57, .bool true), (58, .agg #[.int .u64 (L0 an), .int .u64 (L1 an), .int .u64 (L2 an), .int .u64 (L3 an), .int .u64 (L0 ad), .int .u64 (L1 ad), .int .u64 (L2 ad), .int .u64 (L3 ad)]), (59, .agg #[.int .u64 (L0 bn), .int .u64 (L1 bn), .int .u64 (L2 bn), .int .u64 (L3 bn), .int .u64 (L0 bd), .int .u64 (L1 bd), .int .u64 (L2 bd), .int .u64 (L3 bd)]), (60, .bool true), (61, .bool true), (62, .bool true), (63, .int .i64 x), (64, .bool true), (65, .bool true), (66, undef), (67, undef), (68, undef), (69, undef), (70, .bool true), (71, .bool true), (72, undef), (73, undef), (74, undef), (75, undef), (76, .bool true), (77, .bool true), (6, .bool true)]
                ⟨I.val 0, I.val 1, I.val 2, I.val 3, I.val 4, I.val 5, I.val 6, I.val 7, I.val 8, I.val 9, I.gone 10, I.gone 11, I.gone 12, I.gone 13, I.val 14, I.val 15, I.gone 16, I.gone 17, I.gone 18, I.gone 19, I.val 20, I.val 21, I.val 22, trivial⟩ rfl]
              have sW6 : W5.heap.size ≤ W6.heap.size := I.below.size
              replace ow3 := I.keep ow3 trivial
              replace ow4 := I.keep ow4 trivial
              replace ow5 := I.keep ow5 trivial
              replace ow8 := I.keep ow8 trivial
              have hW6 : Below w.heap.size w W6 := then_ hW5 I.below hW5.size
              clear I
              simp only [List.foldl_cons, List.foldl_nil, List.setIfInBounds_toArray, List.set_cons_zero, List.set_cons_succ]
              clear ow3 ow4 ow5 ow8
              go_wp2
              try simp only [setCell_drawn]
              refine bodyPost_ret (by first | (simp [results, Tryd.results4, go_sem]; done) | (simp [results, Tryd.results4, go_sem]; rfl)) rfl ⟨?_, hW6⟩
              rfl
            · have t13_ := Lib.hid t13
              clear t13
              rcases Bool.eq_false_or_eq_true (decide (0 < u)) with t14 | t14
              · have t14_ := Lib.hid t14
                clear t14
                go_upto_region 9 with fail
                refine region_memo_f (B := W5.heap.size) (L := .val (.int .i64 x) :: .val (.bool true) :: .val (.agg #[.int .u64 (L0 an), .int .u64 (L1 an), .int .u64 (L2 an), .int .u64 (L3 an), .int .u64 (L0 ad), .int .u64 (L1 ad), .int .u64 (L2 ad), .int .u64 (L3 ad)]) :: .val (.agg #[.int .u64 (L0 bn), .int .u64 (L1 bn), .int .u64 (L2 bn), .int .u64 (L3 bn), .int .u64 (L0 bd), .int .u64 (L1 bd), .int .u64 (L2 bd), .int .u64 (L3 bd)]) :: .val (.bool true) :: .val (.bool true) :: .val (.bool true) :: .val (.int .i64 x) :: .val (.bool false) :: .val (.bool false) :: .val (.agg #[.int .u64 (L0 bn), .int .u64 (L1 bn), .int .u64 (L2 bn), .int .u64 (L3 bn), .int .u64 (L0 bd), .int .u64 (L1 bd), .int .u64 (L2 bd), .int .u64 (L3 bd)]) :: .val (.agg #[.int .u64 (L0 cn), .int .u64 (L1 cn), .int .u64 (L2 cn), .int .u64 (L3 cn), .int .u64 (L0 cd), .int .u64 (L1 cd), .int .u64 (L2 cd), .int .u64 (L3 cd)]) :: .val (.int .i64 u) :: .val (.bool true) :: .val (.bool true) :: .val (.bool true) :: .skip :: .skip :: .skip :: .skip :: .val (.bool true) :: .val (.bool true) :: .val (.bool true) :: []) (by kernel_rfl) (Nat.le_refl _) ((by exact trivial))
                  ⟨fun a w R => mv (R.slot 7 rfl), fun a w R => c_eql_tk (R.val 0) (Tryd.underlying3) t12_.out, fun a w R => ld_R (R.slot 3 rfl) (R.keep ow3 trivial) rfl rfl rfl rfl rfl rfl rfl rfl, fun a w R => ld_R (R.slot 4 rfl) (R.keep ow4 trivial) rfl rfl rfl rfl rfl rfl rfl rfl, fun a w R => (e_eql_R (R.val 2) (R.val 3) (fun w => (eq_Ratio han hbn had hbd w).trans (by rw [HEQ.out t1_.out t2_.out, t12_.out]))), fun a w R => cb_eql_tt (R.val 1) (R.val 4) rfl, fun a w R => mv (R.val 5), fun a w R => mv (R.slot 7 rfl), fun a w R => c_gtr_tk (R.val 7) (Tryd.underlying3) t13_.out, fun a w R => mv (R.val 8), fun a w R => ld_R (R.slot 4 rfl) (R.keep ow4 trivial) rfl rfl rfl rfl rfl rfl rfl rfl, fun a w R => ld_R (R.slot 5 rfl) (R.keep ow5 trivial) rfl rfl rfl rfl rfl rfl rfl rfl, fun a w R => cl_tt (enter_at Tryd.func15) (R.val 10) (R.val 11) (CBC.out _), fun a w R => c_gtr_tk (R.val 12) (Tryd.underlying3) t14_.out, fun a w R => pickn (R.val 9) (R.val 13), fun a w R => mv (R.val 14), fun a w R => True.intro, fun a w R => True.intro, fun a w R => True.intro, fun a w R => True.intro, fun a w R => picko (R.val 15) (R.goneS 19), fun a w R => pickt (R.val 6) (R.val 20), fun a w R => asg (R.val 21), trivial⟩ (fun act_ W6 I => ?_)
                rw [I.act [(56, .int .i64 x), (57, .bool true), (58, .agg #[.int .u64 (L0 an), .int .u64 (L1 an), .int .u64 (L2 an), .int .u64 (L3 an), .int .u64 (L0 ad), .int .u64 (L1 ad), .int .u64 (L2 ad), .int .u64 (L3 ad)]), (59, .agg #[.int .u64 (L0 bn), .int .u64 (L1 bn), .int .u64 (L2 bn), .int .u64 (L3 bn), .int .u64 (L0 bd), .int .u64 (L1 bd), .int .u64 (L2 bd), .int .u64 (L3 bd)]), (60, .bool true), (61, .bool true), (62, .bool true), (63, .int .i64 x), (64, .bool false), (65, .bool false), (66, .agg #[.int .u64 (L0 bn), .int .u64 (L1 bn), .int .u64 (L2 bn), .int .u64 (L3 bn), .int .u64 (L0 bd), .int .u64 (L1 bd), .int .u64 (L2 bd), .int .u64 (L3 bd)]), (67, .agg #[.int .u64 (L0 cn), .int .u64 (L1 cn), .int .u64 (L2 cn), .int .u64 (L3 cn), .int .u64 (L0 cd), .int .u64 (L1 cd), .int .u64 (L2 cd), .int .u64 (L3 cd)]), (68, .int .i64 u), (69, .bool true), (70, .bool true), (71, .bool true), (72, undef), (73, undef), (74, undef), (75, undef), (76, .bool true), (77, .bool true), (6, .bool true)]
                  ⟨I.val 0, I.val 1, I.val 2, I.val 3, I.val 4, I.val 5, I.val 6, I.val 7, I.val 8, I.val 9, I.val 10, I.val 11, I.val 12, I.val 13, I.val 14, I.val 15, I.gone 16, I.gone 17, I.gone 18, I.gone 19, I.val 20, I.val 21, I.val 22, trivial⟩ rfl]
                have sW6 : W5.heap.size ≤ W6.heap.size := I.below.size
                replace ow3 := I.keep ow3 trivial
                replace ow4 := I.keep ow4 trivial
                replace ow5 := I.keep ow5 trivial
                replace ow8 := I.keep ow8 trivial
                have hW6 : Below w.heap.size w W6 := then_ hW5 I.below hW5.size
                clear I
                simp only [List.foldl_cons, List.foldl_nil, List.setIfInBounds_toArray, List.set_cons_zero, List.set_cons_succ]
                clear ow3 ow4 ow5 ow8
                go_wp2
                try simp only [setCell_drawn]
                refine bodyPost_ret (by first | (simp [results, Tryd.results4, go_sem]; done) | (simp [results, Tryd.results4, go_sem]; rfl)) rfl ⟨?_, hW6⟩
                rfl
              · have t14_ := Lib.hid t14
                clear t14
                rcases Bool.eq_false_or_eq_true (decide (z ≤ 0)) with t15 | t15
                · have t15_ := Lib.hid t15
                  clear t15
                  go_upto_region 9 with fail
                  refine region_memo_f (B := W5.heap.size) (L := .val (.int .i64 x) :: .val (.bool true) :: .val (.agg #[.int .u64 (L0 an), .int .u64 (L1 an), .int .u64 (L2 an), .int .u64 (L3 an), .int .u64 (L0 ad), .int .u64 (L1 ad), .int .u64 (L2 ad), .int .u64 (L3 ad)]) :: .val (.agg #[.int .u64 (L0 bn), .int .u64 (L1 bn), .int .u64 (L2 bn), .int .u64 (L3 bn), .int .u64 (L0 bd), .int .u64 (L1 bd), .int .u64 (L2 bd), .int .u64 (L3 bd)]) :: .val (.bool true) :: .val (.bool true) :: .val (.bool true) :: .val (.int .i64 x) :: .val (.bool false) :: .val (.bool false) :: .val (.agg #[.int .u64 (L0 bn), .int .u64 (L1 bn), .int .u64 (L2 bn), .int .u64 (L3 bn), .int .u64 (L0 bd), .int .u64 (L1 bd), .int .u64 (L2 bd), .int .u64 (L3 bd)]) :: .val (.agg #[.int .u64 (L0 cn), .int .u64 (L1 cn), .int .u64 (L2 cn), .int .u64 (L3 cn), .int .u64 (L0 cd), .int .u64 (L1 cd), .int .u64 (L2 cd), .int .u64 (L3 cd)]) :: .val (.int .i64 u) :: .val (.bool false) :: .val (.bool false) :: .val (.bool false) :: .val (.agg #[.int .u64 (L0 an), .int .u64 (L1 an), .int .u64 (L2 an), .int .u64 (L3 an), .int .u64 (L0 ad), .int .u64 (L1 ad), .int .u64 (L2 ad), .int .u64 (L3 ad)]) :: .val (.agg #[.int .u64 (L0 cn), .int .u64 (L1 cn), .int .u64 (L2 cn), .int .u64 (L3 cn), .int .u64 (L0 cd), .int .u64 (L1 cd), .int .u64 (L2 cd), .int .u64 (L3 cd)]) :: .val (.int .i64 z) :: .val (.bool true) :: .val (.bool true) :: .val (.bool true) :: .val (.bool true) :: []) (by kernel_rfl) (Nat.le_refl _) ((by exact trivial))
                    ⟨fun a w R => mv (R.slot 7 rfl), fun a w R => c_eql_tk (R.val 0) (Tryd.underlying3) t12_.out, fun a w R => ld_R (R.slot 3 rfl) (R.keep ow3 trivial) rfl rfl rfl rfl rfl rfl rfl rfl, fun a w R => ld_R (R.slot 4 rfl) (R.keep ow4 trivial) rfl rfl rfl rfl rfl rfl rfl rfl, fun a w R => (e_eql_R (R.val 2) (R.val 3) (fun w => (eq_Ratio han hbn had hbd w).trans (by rw [HEQ.out t1_.out t2_.out, t12_.out]))), fun a w R => cb_eql_tt (R.val 1) (R.val 4) rfl, fun a w R => mv (R.val 5), fun a w R => mv (R.slot 7 rfl), fun a w R => c_gtr_tk (R.val 7) (Tryd.underlying3) t13_.out, fun a w R => mv (R.val 8), fun a w R => ld_R (R.slot 4 rfl) (R.keep ow4 trivial) rfl rfl rfl rfl rfl rfl rfl rfl, fun a w R => ld_R (R.slot 5 rfl) (R.keep ow5 trivial) rfl rfl rfl rfl rfl rfl rfl rfl, fun a w R => cl_tt (enter_at Tryd.func15) (R.val 10) (R.val 11) (CBC.out _), fun a w R => c_gtr_tk (R.val 12) (Tryd.underlying3) t14_.out, fun a w R => pickn (R.val 9) (R.val 13), fun a w R => mv (R.val 14), fun a w R => ld_R (R.slot 3 rfl) (R.keep ow3 trivial) rfl rfl rfl rfl rfl rfl rfl rfl, fun a w R => ld_R (R.slot 5 rfl) (R.keep ow5 trivial) rfl rfl rfl rfl rfl rfl rfl rfl, fun a w R => cl_tt (enter_at Tryd.func15) (R.val 16) (R.val 17) (CAC.out _), fun a w R => c_leq_tk (R.val 18) (Tryd.underlying3) t15_.out, fun a w R => pickn (R.val 15) (R.val 19), fun a w R => pickt (R.val 6) (R.val 20), fun a w R => asg (R.val 21), trivial⟩ (fun act_ W6 I => ?_)
                  rw [I.act [(56, .int .i64 x), (57, .bool true), (58, .agg #[.int .u64 (L0 an), .int .u64 (L1 an), .int .u64 (L2 an), .int .u64 (L3 an), .int .u64 (L0 ad), .int .u64 (L1 ad), .int .u64 (L2 ad), .int .u64 (L3 ad)]), (59, .agg #[.int .u64 (L0 bn), .int .u64 (L1 bn), .int .u64 (L2 bn), .int .u64 (L3 bn), .int .u64 (L0 bd), .int .u64 (L1 bd), .int .u64 (L2 bd), .int .u64 (L3 bd)]), (60, .bool true), (61, .bool true), (62, .bool true), (63, .int .i64 x), (64, .bool false), (65, .bool false), (66, .agg #[.int .u64 (L0 bn), .int .u64 (L1 bn), .int .u64 (L2 bn), .int .u64 (L3 bn), .int .u64 (L0 bd), .int .u64 (L1 bd), .int .u64 (L2 bd), .int .u64 (L3 bd)]), (67, .agg #[.int .u64 (L0 cn), .int .u64 (L1 cn), .int .u64 (L2 cn), .int .u64 (L3 cn), .int .u64 (L0 cd), .int .u64 (L1 cd), .int .u64 (L2 cd), .int .u64 (L3 cd)]), (68, .int .i64 u), (69, .bool false), (70, .bool false), (71, .bool false), (72, .agg #[.int .u64 (L0 an), .int .u64 (L1 an), .int .u64 (L2 an), .int .u64 (L3 an), .int .u64 (L0 ad), .int .u64 (L1 ad), .int .u64 (L2 ad), .int .u64 (L3 ad)]), (73, .agg #[.int .u64 (L0 cn), .int .u64 (L1 cn), .int .u64 (L2 cn), .int .u64 (L3 cn), .int .u64 (L0 cd), .int .u64 (L1 cd), .int .u64 (L2 cd), .int .u64 (L3 cd)]), (74, .int .i64 z), (75, .bool true), (76, .bool true), (77, .bool true), (6, .bool true)]
                    ⟨I.val 0, I.val 1, I.val 2, I.val 3, I.val 4, I.val 5, I.val 6, I.val 7, I.val 8, I.val 9, I.val 10, I.val 11, I.val 12, I.val 13, I.val 14, I.val 15, I.val 16, I.val 17, I.val 18, I.val 19, I.val 20, I.val 21, I.val 22, trivial⟩ rfl]
                  have sW6 : W5.heap.size ≤ W6.heap.size := I.below.size
                  replace ow3 := I.keep ow3 trivial
                  replace ow4 := I.keep ow4 trivial
                  replace ow5 := I.keep ow5 trivial
                  replace ow8 := I.keep ow8 trivial
                  have hW6 : Below w.heap.size w W6 := then_ hW5 I.below hW5.size
                  clear I
                  simp only [List.foldl_cons, List.foldl_nil, List.setIfInBounds_toArray, List.set_cons_zero, List.set_cons_succ]
                  clear ow3 ow4 ow5 ow8
                  go_wp2
                  try simp only [setCell_drawn]
                  refine bodyPost_ret (by first | (simp [results, Tryd.results4, go_sem]; done) | (simp [results, Tryd.results4, go_sem]; rfl)) rfl ⟨?_, hW6⟩
                  rfl
                · have t15_ := Lib.hid t15
                  clear t15
                  exact Bool.noConfusion ((TR.out t1_.out t2_.out t3_.out t13_.out t14_.out).symm.trans t15_.out)
          · have t12_ := Lib.hid t12
            clear t12
            rcases Bool.eq_false_or_eq_true (decide (0 < x)) with t16 | t16
            · have t16_ := Lib.hid t16
              clear t16
              go_upto_region 9 with fail
              refine region_memo_f (B := W5.heap.size) (L := .val (.int .i64 x) :: .val (.bool false) :: .val (.agg #[.int .u64 (L0 an), .int .u64 (L1 an), .int .u64 (L2 an), .int .u64 (L3 an), .int .u64 (L0 ad), .int .u64 (L1 ad), .int .u64 (L2 ad), .int .u64 (L3 ad)]) :: .val (.agg #[.int .u64 (L0 bn), .int .u64 (L1 bn), .int .u64 (L2 bn), .int .u64 (L3 bn), .int .u64 (L0 bd), .int .u64 (L1 bd), .int .u64 (L2 bd), .int .u64 (L3 bd)]) :: .val (.bool false) :: .val (.bool true) :: .val (.bool true) :: .val (.int .i64 x) :: .val (.bool true) :: .val (.bool true) :: .skip :: .skip :: .skip :: .skip :: .val (.bool true) :: .val (.bool true) :: .skip :: .skip :: .skip :: .skip :: .val (.bool true) :: .val (.bool true) :: .val (.bool true) :: []) (by kernel_rfl) (Nat.le_refl _) ((by exact trivial))
                ⟨fun a w R => mv (R.slot 7 rfl), fun a w R => c_eql_tk (R.val 0) (Tryd.underlying3) t12_.out, fun a w R => ld_R (R.slot 3 rfl) (R.keep ow3 trivial) rfl rfl rfl rfl rfl rfl rfl rfl, fun a w R => ld_R (R.slot 4 rfl) (R.keep ow4 trivial) rfl rfl rfl rfl rfl rfl rfl rfl, fun a w R => (e_eql_R (R.val 2) (R.val 3) (fun w => (eq_Ratio han hbn had hbd w).trans (by rw [HEQ.out t1_.out t2_.out, t12_.out]))), fun a w R => cb_eql_tt (R.val 1) (R.val 4) rfl, fun a w R => mv (R.val 5), fun a w R => mv (R.slot 7 rfl), fun a w R => c_gtr_tk (R.val 7) (Tryd.underlying3) t16_.out, fun a w R => mv (R.val 8), fun a w R => True.intro, fun a w R => True.intro, fun a w R => True.intro, fun a w R => True.intro, fun a w R => picko (R.val 9) (R.goneS 13), fun a w R => mv (R.val 14), fun a w R => True.intro, fun a w R => True.intro, fun a w R => True.intro, fun a w R => True.intro, fun a w R => picko (R.val 15) (R.goneS 19), fun a w R => pickt (R.val 6) (R.val 20), fun a w R => asg (R.val 21), trivial⟩ (fun act_ W6 I => ?_)
              rw [I.act [(56, .int .i64 x), (57, .bool false), (58, .agg #[.int .u64 (L0 an), .int .u64 (L1 an), .int .u64 (L2 an), .int .u64 (L3 an), .int .u64 (L0 ad), .int .u64 (L1 ad), .int .u64 (L2 ad), .int .u64 (L3 ad)]), (59, .agg #[.int .u64 (L0 bn), .int .u64 (L1 bn), .int .u64 (L2 bn), .int .u64 (L3 bn), .int .u64 (L0 bd), .int .u64 (L1 bd), .int .u64 (L2 bd), .int .u64 (L3 bd)]), (60, .bool false), (61, .bool true), (62, .bool true), (63, .int .i64 x), (64, .bool true), (65, .bool true), (66, undef), (67, undef), (68, undef), (69, undef), (70, .bool true), (71, .bool true), (72, undef), (73, undef), (74, undef), (75, undef), (76, .bool true), (77, .bool true), (6, .bool true)]
                ⟨I.val 0, I.val 1, I.val 2, I.val 3, I.val 4, I.val 5, I.val 6, I.val 7, I.val 8, I.val 9, I.gone 10, I.gone 11, I.gone 12, I.gone 13, I.val 14, I.val 15, I.gone 16, I.gone 17, I.gone 18, I.gone 19, I.val 20, I.val 21, I.val 22, trivial⟩ rfl]
              have sW6 : W5.heap.size ≤ W6.heap.size := I.below.size
              replace ow3 := I.keep ow3 trivial
              replace ow4 := I.keep ow4 trivial
              replace ow5 := I.keep ow5 trivial
              replace ow8 := I.keep ow8 trivial
              have hW6 : Below w.heap.size w W6 := then_ hW5 I.below hW5.size
              clear I
              simp only [List.foldl_cons, List.foldl_nil, List.setIfInBounds_toArray, List.set_cons_zero, List.set_cons_succ]
              clear ow3 ow4 ow5 ow8
              go_wp2
              try simp only [setCell_drawn]
              refine bodyPost_ret (by first | (simp [results, Tryd.results4, go_sem]; done) | (simp [results, Tryd.results4, go_sem]; rfl)) rfl ⟨?_, hW6⟩
              rfl
            · have t16_ := Lib.hid t16
              clear t16
              rcases Bool.eq_false_or_eq_true (decide (0 < u)) with t17 | t17
              · have t17_ := Lib.hid t17
                clear t17
                go_upto_region 9 with fail
                refine region_memo_f (B := W5.heap.size) (L := .val (.int .i64 x) :: .val (.bool false) :: .val (.agg #[.int .u64 (L0 an), .int .u64 (L1 an), .int .u64 (L2 an), .int .u64 (L3 an), .int .u64 (L0 ad), .int .u64 (L1 ad), .int .u64 (L2 ad), .int .u64 (L3 ad)]) :: .val (.agg #[.int .u64 (L0 bn), .int .u64 (L1 bn), .int .u64 (L2 bn), .int .u64 (L3 bn), .int .u64 (L0 bd), .int .u64 (L1 bd), .int .u64 (L2 bd), .int .u64 (L3 bd)]) :: .val (.bool false) :: .val (.bool true) :: .val (.bool true) :: .val (.int .i64 x) :: .val (.bool false) :: .val (.bool false) :: .val (.agg #[.int .u64 (L0 bn), .int .u64 (L1 bn), .int .u64 (L2 bn), .int .u64 (L3 bn), .int .u64 (L0 bd), .int .u64 (L1 bd), .int .u64 (L2 bd), .int .u64 (L3 bd)]) :: .val (.agg #[.int .u64 (L0 cn), .int .u64 (L1 cn), .int .u64 (L2 cn), .int .u64 (L3 cn), .int .u64 (L0 cd), .int .u64 (L1 cd), .int .u64 (L2 cd), .int .u64 (L3 cd)]) :: .val (.int .i64 u) :: .val (.bool true) :: .val (.bool true) :: .val (.bool true) :: .skip :: .skip :: .skip :: .skip :: .val (.bool true) :: .val (.bool true) :: .val (.bool true) :: []) (by kernel_rfl) (Nat.le_refl _) ((by exact trivial))
                  ⟨fun a w R => mv (R.slot 7 rfl), fun a w R => c_eql_tk (R.val 0) (Tryd.underlying3) t12_.out, fun a w R => ld_R (R.slot 3 rfl) (R.keep ow3 trivial) rfl rfl rfl rfl rfl rfl rfl rfl, fun a w R => ld_R (R.slot 4 rfl) (R.keep ow4 trivial) rfl rfl rfl rfl rfl rfl rfl rfl, fun a w R => (e_eql_R (R.val 2) (R.val 3) (fun w => (eq_Ratio han hbn had hbd w).trans (by rw [HEQ.out t1_.out t2_.out, t12_.out]))), fun a w R => cb_eql_tt (R.val 1) (R.val 4) rfl, fun a w R => mv (R.val 5), fun a w R => mv (R.slot 7 rfl), fun a w R => c_gtr_tk (R.val 7) (Tryd.underlying3) t16_.out, fun a w R => mv (R.val 8), fun a w R => ld_R (R.slot 4 rfl) (R.keep ow4 trivial) rfl rfl rfl rfl rfl rfl rfl rfl, fun a w R => ld_R (R.slot 5 rfl) (R.keep ow5 trivial) rfl rfl rfl rfl rfl rfl rfl rfl, fun a w R => cl_tt (enter_at Tryd.func15) (R.val 10) (R.val 11) (CBC.out _), fun a w R => c_gtr_tk (R.val 12) (Tryd.underlying3) t17_.out, fun a w R => pickn (R.val 9) (R.val 13), fun a w R => mv (R.val 14), fun a w R => True.intro, fun a w R => True.intro, fun a w R => True.intro, fun a w R => True.intro, fun a w R => picko (R.val 15) (R.goneS 19), fun a w R => pickt (R.val 6) (R.val 20), fun a w R => asg (R.val 21), trivial⟩ (fun act_ W6 I => ?_)
                rw [I.act [(56, .int .i64 x), (57, .bool false), (58, .agg #[.int .u64 (L0 an), .int .u64 (L1 an), .int .u64 (L2 an), .int .u64 (L3 an), .int .u64 (L0 ad), .int .u64 (L1 ad), .int .u64 (L2 ad), .int .u64 (L3 ad)]), (59, .agg #[.int .u64 (L0 bn), .int .u64 (L1 bn), .int .u64 (L2 bn), .int .u64 (L3 bn), .int .u64 (L0 bd), .int .u64 (L1 bd), .int .u64 (L2 bd), .int .u64 (L3 bd)]), (60, .bool false), (61, .bool true), (62, .bool true), (63, .int .i64 x), (64, .bool false), (65, .bool false), (66, .agg #[.int .u64 (L0 bn), .int .u64 (L1 bn), .int .u64 (L2 bn), .int .u64 (L3 bn), .int .u64 (L0 bd), .int .u64 (L1 bd), .int .u64 (L2 bd), .int .u64 (L3 bd)]), (67, .agg #[.int .u64 (L0 cn), .int .u64 (L1 cn), .int .u64 (L2 cn), .int .u64 (L3 cn), .int .u64 (L0 cd), .int .u64 (L1 cd), .int .u64 (L2 cd), .int .u64 (L3 cd)]), (68, .int .i64 u), (69, .bool true), (70, .bool true), (71, .bool true), (72, undef), (73, undef), (74, undef), (75, undef), (76, .bool true), (77, .bool true), (6, .bool true)]
                  ⟨I.val 0, I.val 1, I.val 2, I.val 3, I.val 4, I.val 5, I.val 6, I.val 7, I.val 8, I.val 9, I.val 10, I.val 11, I.val 12, I.val 13, I.val 14, I.val 15, I.gone 16, I.gone 17, I.gone 18, I.gone 19, I.val 20, I.val 21, I.val 22, trivial⟩ rfl]
                have sW6 : W5.heap.size ≤ W6.heap.size := I.below.size
                replace ow3 := I.keep ow3 trivial
                replace ow4 := I.keep ow4 trivial
                replace ow5 := I.keep ow5 trivial
                replace ow8 := I.keep ow8 trivial
                have hW6 : Below w.heap.size w W6 := then_ hW5 I.below hW5.size
                clear I
                simp only [List.foldl_cons, List.foldl_nil, List.setIfInBounds_toArray, List.set_cons_zero, List.set_cons_succ]
                clear ow3 ow4 ow5 ow8
                go_wp2
                try simp only [setCell_drawn]
                refine bodyPost_ret (by first | (simp [results, Tryd.results4, go_sem]; done) | (simp [results, Tryd.results4, go_sem]; rfl)) rfl ⟨?_, hW6⟩
                rfl
              · have t17_ := Lib.hid t17
                clear t17
                rcases Bool.eq_false_or_eq_true (decide (z ≤ 0)) with t18 | t18
                · have t18_ := Lib.hid t18
                  clear t18
                  go_upto_region 9 with fail
                  refine region_memo_f (B := W5.heap.size) (L := .val (.int .i64 x) :: .val (.bool false) :: .val (.agg #[.int .u64 (L0 an), .int .u64 (L1 an), .int .u64 (L2 an), .int .u64 (L3 an), .int .u64 (L0 ad), .int .u64 (L1 ad), .int .u64 (L2 ad), .int .u64 (L3 ad)]) :: .val (.agg #[.int .u64 (L0 bn), .int .u64 (L1 bn), .int .u64 (L2 bn), .int .u64 (L3 bn), .int .u64 (L0 bd), .int .u64 (L1 bd), .int .u64 (L2 bd), .int .u64 (L3 bd)]) :: .val (.bool false) :: .val (.bool true) :: .val (.bool true) :: .val (.int .i64 x) :: .val (.bool false) :: .val (.bool false) :: .val (.agg #[.int .u64 (L0 bn), .int .u64 (L1 bn), .int .u64 (L2 bn), .int .u64 (L3 bn), .int .u64 (L0 bd), .int .u64 (L1 bd), .int .u64 (L2 bd), .int .u64 (L3 bd)]) :: .val (.agg #[.int .u64 (L0 cn), .int .u64 (L1 cn), .int .u64 (L2 cn), .int .u64 (L3 cn), .int .u64 (L0 cd), .int .u64 (L1 cd), .int .u64 (L2 cd), .int .u64 (L3 cd)]) :: .val (.int .i64 u) :: .val (.bool false) :: .val (.bool false) :: .val (.bool false) :: .val (.agg #[.int .u64 (L0 an), .int .u64 (L1 an), .int .u64 (L2 an), .int .u64 (L3 an), .int .u64 (L0 ad), .int .u64 (L1 ad), .int .u64 (L2 ad), .int .u64 (L3 ad)]) :: .val (.agg #[.int .u64 (L0 cn), .int .u64 (L1 cn), .int .u64 (L2 cn), .int .u64 (L3 cn), .int .u64 (L0 cd), .int .u64 (L1 cd), .int .u64 (L2 cd), .int .u64 (L3 cd)]) :: .val (.int .i64 z) :: .val (.bool true) :: .val (.bool true) :: .val (.bool true) :: .val (.bool true) :: []) (by kernel_rfl) (Nat.le_refl _) ((by exact trivial))
                    ⟨fun a w R => mv (R.slot 7 rfl), fun a w R => c_eql_tk (R.val 0) (Tryd.underlying3) t12_.out, fun a w R => ld_R (R.slot 3 rfl) (R.keep ow3 trivial) rfl rfl rfl rfl rfl rfl rfl rfl, fun a w R => ld_R (R.slot 4 rfl) (R.keep ow4 trivial) rfl rfl rfl rfl rfl rfl rfl rfl, fun a w R => (e_eql_R (R.val 2) (R.val 3) (fun w => (eq_Ratio han hbn had hbd w).trans (by rw [HEQ.out t1_.out t2_.out, t12_.out]))), fun a w R => cb_eql_tt (R.val 1) (R.val 4) rfl, fun a w R => mv (R.val 5), fun a w R => mv (R.slot 7 rfl), fun a w R => c_gtr_tk (R.val 7) (Tryd.underlying3) t16_.out, fun a w R => mv (R.val 8), fun a w R => ld_R (R.slot 4 rfl) (R.keep ow4 trivial) rfl rfl rfl rfl rfl rfl rfl rfl, fun a w R => ld_R (R.slot 5 rfl) (R.keep ow5 trivial) rfl rfl rfl rfl rfl rfl rfl rfl, fun a w R => cl_tt (enter_at Tryd.func15) (R.val 10) (R.val 11) (CBC.out _), fun a w R => c_gtr_tk (R.val 12) (Tryd.underlying3) t17_.out, fun a w R => pickn (R.val 9) (R.val 13), fun a w R => mv (R.val 14), fun a w R => ld_R (R.slot 3 rfl) (R.keep ow3 trivial) rfl rfl rfl rfl rfl rfl rfl rfl, fun a w R => ld_R (R.slot 5 rfl) (R.keep ow5 trivial) rfl rfl rfl rfl rfl rfl rfl rfl, fun a w R => cl_tt (enter_at Tryd.func15) (R.val 16) (R.val 17) (CAC.out _), fun a w R => c_leq_tk (R.val 18) (Tryd.underlying3) t18_.out, fun a w R => pickn (R.val 15) (R.val 19), fun a w R => pickt (R.val 6) (R.val 20), fun a w R => asg (R.val 21), trivial⟩ (fun act_ W6 I => ?_)
                  rw [I.act [(56, .int .i64 x), (57, .bool false), (58, .agg #[.int .u64 (L0 an), .int .u64 (L1 an), .int .u64 (L2 an), .int .u64 (L3 an), .int .u64 (L0 ad), .int .u64 (L1 ad), .int .u64 (L2 ad), .int .u64 (L3 ad)]), (59, .agg #[.int .u64 (L0 bn), .int .u64 (L1 bn), .int .u64 (L2 bn), .int .u64 (L3 bn), .int .u64 (L0 bd), .int .u64 (L1 bd), .int .u64 (L2 bd), .int .u64 (L3 bd)]), (60, .bool false), (61, .bool true), (62, .bool true), (63, .int .i64 x), (64, .bool false), (65, .bool false), (66, .agg #[.int .u64 (L0 bn), .int .u64 (L1 bn), .int .u64 (L2 bn), .int .u64 (L3 bn), .int .u64 (L0 bd), .int .u64 (L1 bd), .int .u64 (L2 bd), .int .u64 (L3 bd)]), (67, .agg #[.int .u64 (L0 cn), .int .u64 (L1 cn), .int .u64 (L2 cn), .int .u64 (L3 cn), .int .u64 (L0 cd), .int .u64 (L1 cd), .int .u64 (L2 cd), .int .u64 (L3 cd)]), (68, .int .i64 u), (69, .bool false), (70, .bool false), (71, .bool false), (72, .agg #[.int .u64 (L0 an), .int .u64 (L1 an), .int .u64 (L2 an), .int .u64 (L3 an), .int .u64 (L0 ad), .int .u64 (L1 ad), .int .u64 (L2 ad), .int .u64 (L3 ad)]), (73, .agg #[.int .u64 (L0 cn), .int .u64 (L1 cn), .int .u64 (L2 cn), .int .u64 (L3 cn), .int .u64 (L0 cd), .int .u64 (L1 cd), .int .u64 (L2 cd), .int .u64 (L3 cd)]), (74, .int .i64 z), (75, .bool true), (76, .bool true), (77, .bool true), (6, .bool true)]
                    ⟨I.val 0, I.val 1, I.val 2, I.val 3, I.val 4, I.val 5, I.val 6, I.val 7, I.val 8, I.val 9, I.val 10, I.val 11, I.val 12, I.val 13, I.val 14, I.val 15, I.val 16, I.val 17, I.val 18, I.val 19, I.val 20, I.val 21, I.val 22, trivial⟩ rfl]
                  have sW6 : W5.heap.size ≤ W6.heap.size := I.below.size
                  replace ow3 := I.keep ow3 trivial
                  replace ow4 := I.keep ow4 trivial
                  replace ow5 := I.keep ow5 trivial
                  replace ow8 := I.keep ow8 trivial
                  have hW6 : Below w.heap.size w W6 := then_ hW5 I.below hW5.size
                  clear I
                  simp only [List.foldl_cons, List.foldl_nil, List.setIfInBounds_toArray, List.set_cons_zero, List.set_cons_succ]
                  clear ow3 ow4 ow5 ow8
                  go_wp2
                  try simp only [setCell_drawn]
                  refine bodyPost_ret (by first | (simp [results, Tryd.results4, go_sem]; done) | (simp [results, Tryd.results4, go_sem]; rfl)) rfl ⟨?_, hW6⟩
                  rfl
                · have t18_ := Lib.hid t18
                  clear t18
                  exact Bool.noConfusion ((TR.out t1_.out t2_.out t3_.out t16_.out t17_.out).symm.trans t18_.out)
      · have t3_ := Lib.hid t3
        clear t3
        go_upto_region 4 with fail
        refine region_memo_f (B := W2.heap.size) (L := .val (.agg #[.int .u64 (L0 an), .int .u64 (L1 an), .int .u64 (L2 an), .int .u64 (L3 an), .int .u64 (L0 ad), .int .u64 (L1 ad), .int .u64 (L2 ad), .int .u64 (L3 ad)]) :: .val (.bool true) :: .val (.bool false) :: .val (.bool false) :: .val (.agg #[.int .u64 (L0 bn), .int .u64 (L1 bn), .int .u64 (L2 bn), .int .u64 (L3 bn), .int .u64 (L0 bd), .int .u64 (L1 bd), .int .u64 (L2 bd), .int .u64 (L3 bd)]) :: .val (.bool true) :: .val (.bool false) :: .val (.bool false) :: .val (.bool false) :: .val (.agg #[.int .u64 (L0 cn), .int .u64 (L1 cn), .int .u64 (L2 cn), .int .u64 (L3 cn), .int .u64 (L0 cd), .int .u64 (L1 cd), .int .u64 (L2 cd), .int .u64 (L3 cd)]) :: .val (.bool false) :: .val (.bool true) :: .val (.bool true) :: []) (by kernel_rfl) (Nat.le_refl _) ((by exact trivial))
          ⟨fun a w R => ld_R (R.slot 3 rfl) (R.keep ow3 trivial) rfl rfl rfl rfl rfl rfl rfl rfl, fun a w R => cl_t (enter_at Tryd.func12) (R.val 0) (Right_is han had t1_.out _), fun a w R => notb (R.val 1), fun a w R => mv (R.val 2), fun a w R => ld_R (R.slot 4 rfl) (R.keep ow4 trivial) rfl rfl rfl rfl rfl rfl rfl rfl, fun a w R => cl_t (enter_at Tryd.func12) (R.val 4) (Right_is hbn hbd t2_.out _), fun a w R => notb (R.val 5), fun a w R => pickn (R.val 3) (R.val 6), fun a w R => mv (R.val 7), fun a w R => ld_R (R.slot 5 rfl) (R.keep ow5 trivial) rfl rfl rfl rfl rfl rfl rfl rfl, fun a w R => cl_t (enter_at Tryd.func12) (R.val 9) (Right_is hcn hcd t3_.out _), fun a w R => notb (R.val 10), fun a w R => pickn (R.val 8) (R.val 11), trivial⟩ (fun act_ W3 I => ?_)
        rw [I.act [(29, .agg #[.int .u64 (L0 an), .int .u64 (L1 an), .int .u64 (L2 an), .int .u64 (L3 an), .int .u64 (L0 ad), .int .u64 (L1 ad), .int .u64 (L2 ad), .int .u64 (L3 ad)]), (30, .bool true), (31, .bool false), (32, .bool false), (33, .agg #[.int .u64 (L0 bn), .int .u64 (L1 bn), .int .u64 (L2 bn), .int .u64 (L3 bn), .int .u64 (L0 bd), .int .u64 (L1 bd), .int .u64 (L2 bd), .int .u64 (L3 bd)]), (34, .bool true), (35, .bool false), (36, .bool false), (37, .bool false), (38, .agg #[.int .u64 (L0 cn), .int .u64 (L1 cn), .int .u64 (L2 cn), .int .u64 (L3 cn), .int .u64 (L0 cd), .int .u64 (L1 cd), .int .u64 (L2 cd), .int .u64 (L3 cd)]), (39, .bool false), (40, .bool true), (41, .bool true)]
          ⟨I.val 0, I.val 1, I.val 2, I.val 3, I.val 4, I.val 5, I.val 6, I.val 7, I.val 8, I.val 9, I.val 10, I.val 11, I.val 12, trivial⟩ rfl]
        have sW3 : W2.heap.size ≤ W3.heap.size := I.below.size
        replace ow3 := I.keep ow3 trivial
        replace ow4 := I.keep ow4 trivial
        replace ow5 := I.keep ow5 trivial
        have hW3 : Below w.heap.size w W3 := then_ hW2 I.below hW2.size
        clear I
        simp only [List.foldl_cons, List.foldl_nil, List.setIfInBounds_toArray, List.set_cons_zero, List.set_cons_succ]
        go_upto_region 5 with fail
        refine region_memo_f (B := W3.heap.size) (L := .val (.bool true) :: []) (by kernel_rfl) (Nat.le_refl _) ((by exact trivial))
          ⟨fun a w R => asc, trivial⟩ (fun act_ W4 I => ?_)
        rw [I.act [(6, .bool true)]
          ⟨I.val 0, trivial⟩ rfl]
        have sW4 : W3.heap.size ≤ W4.heap.size := I.below.size
        replace ow3 := I.keep ow3 trivial
        replace ow4 := I.keep ow4 trivial
        replace ow5 := I.keep ow5 trivial
        have hW4 : Below w.heap.size w W4 := then_ hW3 I.below hW3.size
        clear I
        simp only [List.foldl_cons, List.foldl_nil, List.setIfInBounds_toArray, List.set_cons_zero, List.set_cons_succ]
        clear ow3 ow4 ow5
        go_wp2
        try simp only [setCell_drawn]
        refine bodyPost_ret (by first | (simp [results, Tryd.results4, go_sem]; done) | (simp [results, Tryd.results4, go_sem]; rfl)) rfl ⟨?_, hW4⟩
        rfl
    · have t2_ := Lib.hid t2
      clear t2
      go_upto_region 4 with fail
      refine region_memo_f (B := W2.heap.size) (L := .val (.agg #[.int .u64 (L0 an), .int .u64 (L1 an), .int .u64 (L2 an), .int .u64 (L3 an), .int .u64 (L0 ad), .int .u64 (L1 ad), .int .u64 (L2 ad), .int .u64 (L3 ad)]) :: .val (.bool true) :: .val (.bool false) :: .val (.bool false) :: .val (.agg #[.int .u64 (L0 bn), .int .u64 (L1 bn), .int .u64 (L2 bn), .int .u64 (L3 bn), .int .u64 (L0 bd), .int .u64 (L1 bd), .int .u64 (L2 bd), .int .u64 (L3 bd)]) :: .val (.bool false) :: .val (.bool true) :: .val (.bool true) :: .val (.bool true) :: .skip :: .skip :: .skip :: .val (.bool true) :: []) (by kernel_rfl) (Nat.le_refl _) ((by exact trivial))
        ⟨fun a w R => ld_R (R.slot 3 rfl) (R.keep ow3 trivial) rfl rfl rfl rfl rfl rfl rfl rfl, fun a w R => cl_t (enter_at Tryd.func12) (R.val 0) (Right_is han had t1_.out _), fun a w R => notb (R.val 1), fun a w R => mv (R.val 2), fun a w R => ld_R (R.slot 4 rfl) (R.keep ow4 trivial) rfl rfl rfl rfl rfl rfl rfl rfl, fun a w R => cl_t (enter_at Tryd.func12) (R.val 4) (Right_is hbn hbd t2_.out _), fun a w R => notb (R.val 5), fun a w R => pickn (R.val 3) (R.val 6), fun a w R => mv (R.val 7), fun a w R => True.intro, fun a w R => True.intro, fun a w R => True.intro, fun a w R => picko (R.val 8) (R.goneS 11), trivial⟩ (fun act_ W3 I => ?_)
      rw [I.act [(29, .agg #[.int .u64 (L0 an), .int .u64 (L1 an), .int .u64 (L2 an), .int .u64 (L3 an), .int .u64 (L0 ad), .int .u64 (L1 ad), .int .u64 (L2 ad), .int .u64 (L3 ad)]), (30, .bool true), (31, .bool false), (32, .bool false), (33, .agg #[.int .u64 (L0 bn), .int .u64 (L1 bn), .int .u64 (L2 bn), .int .u64 (L3 bn), .int .u64 (L0 bd), .int .u64 (L1 bd), .int .u64 (L2 bd), .int .u64 (L3 bd)]), (34, .bool false), (35, .bool true), (36, .bool true), (37, .bool true), (38, undef), (39, undef), (40, undef), (41, .bool true)]
        ⟨I.val 0, I.val 1, I.val 2, I.val 3, I.val 4, I.val 5, I.val 6, I.val 7, I.val 8, I.gone 9, I.gone 10, I.gone 11, I.val 12, trivial⟩ rfl]
      have sW3 : W2.heap.size ≤ W3.heap.size := I.below.size
      replace ow3 := I.keep ow3 trivial
      replace ow4 := I.keep ow4 trivial
      replace ow5 := I.keep ow5 trivial
      have hW3 : Below w.heap.size w W3 := then_ hW2 I.below hW2.size
      clear I
      simp only [List.foldl_cons, List.foldl_nil, List.setIfInBounds_toArray, List.set_cons_zero, List.set_cons_succ]
      go_upto_region 5 with fail
      refine region_memo_f (B := W3.heap.size) (L := .val (.bool true) :: []) (by kernel_rfl) (Nat.le_refl _) ((by exact trivial))
        ⟨fun a w R => asc, trivial⟩ (fun act_ W4 I => ?_)
      rw [I.act [(6, .bool true)]
        ⟨I.val 0, trivial⟩ rfl]
      have sW4 : W3.heap.size ≤ W4.heap.size := I.below.size
      replace ow3 := I.keep ow3 trivial
      replace ow4 := I.keep ow4 trivial
      replace ow5 := I.keep ow5 trivial
      have hW4 : Below w.heap.size w W4 := then_ hW3 I.below hW3.size
      clear I
      simp only [List.foldl_cons, List.foldl_nil, List.setIfInBounds_toArray, List.set_cons_zero, List.set_cons_succ]
      clear ow3 ow4 ow5
      go_wp2
      try simp only [setCell_drawn]
      refine bodyPost_ret (by first | (simp [results, Tryd.results4, go_sem]; done) | (simp [results, Tryd.results4, go_sem]; rfl)) rfl ⟨?_, hW4⟩
      rfl
  · have t1_ := Lib.hid t1
    clear t1
    go_upto_region 4 with fail
    refine region_memo_f (B := W2.heap.size) (L := .val (.agg #[.int .u64 (L0 an), .int .u64 (L1 an), .int .u64 (L2 an), .int .u64 (L3 an), .int .u64 (L0 ad), .int .u64 (L1 ad), .int .u64 (L2 ad), .int .u64 (L3 ad)]) :: .val (.bool false) :: .val (.bool true) :: .val (.bool true) :: .skip :: .skip :: .skip :: .val (.bool true) :: .val (.bool true) :: .skip :: .skip :: .skip :: .val (.bool true) :: []) (by kernel_rfl) (Nat.le_refl _) ((by exact trivial))
      ⟨fun a w R => ld_R (R.slot 3 rfl) (R.keep ow3 trivial) rfl rfl rfl rfl rfl rfl rfl rfl, fun a w R => cl_t (enter_at Tryd.func12) (R.val 0) (Right_is han had t1_.out _), fun a w R => notb (R.val 1), fun a w R => mv (R.val 2), fun a w R => True.intro, fun a w R => True.intro, fun a w R => True.intro, fun a w R => picko (R.val 3) (R.goneS 6), fun a w R => mv (R.val 7), fun a w R => True.intro, fun a w R => True.intro, fun a w R => True.intro, fun a w R => picko (R.val 8) (R.goneS 11), trivial⟩ (fun act_ W3 I => ?_)
    rw [I.act [(29, .agg #[.int .u64 (L0 an), .int .u64 (L1 an), .int .u64 (L2 an), .int .u64 (L3 an), .int .u64 (L0 ad), .int .u64 (L1 ad), .int .u64 (L2 ad), .int .u64 (L3 ad)]), (30, .bool false), (31, .bool true), (32, .bool true), (33, undef), (34, undef), (35, undef), (36, .bool true), (37, .bool true), (38, undef), (39, undef), (40, undef), (41, .bool true)]
      ⟨I.val 0, I.val 1, I.val 2, I.val 3, I.gone 4, I.gone 5, I.gone 6, I.val 7, I.val 8, I.gone 9, I.gone 10, I.gone 11, I.val 12, trivial⟩ rfl]
    have sW3 : W2.heap.size ≤ W3.heap.size := I.below.size
    replace ow3 := I.keep ow3 trivial
    replace ow4 := I.keep ow4 trivial
    replace ow5 := I.keep ow5 trivial
    have hW3 : Below w.heap.size w W3 := then_ hW2 I.below hW2.size
    clear I
    simp only [List.foldl_cons, List.foldl_nil, List.setIfInBounds_toArray, List.set_cons_zero, List.set_cons_succ]
    go_upto_region 5 with fail
    refine region_memo_f (B := W3.heap.size) (L := .val (.bool true) :: []) (by kernel_rfl) (Nat.le_refl _) ((by exact trivial))
      ⟨fun a w R => asc, trivial⟩ (fun act_ W4 I => ?_)
    rw [I.act [(6, .bool true)]
      ⟨I.val 0, trivial⟩ rfl]
    have sW4 : W3.heap.size ≤ W4.heap.size := I.below.size
    replace ow3 := I.keep ow3 trivial
    replace ow4 := I.keep ow4 trivial
    replace ow5 := I.keep ow5 trivial
    have hW4 : Below w.heap.size w W4 := then_ hW3 I.below hW3.size
    clear I
    simp only [List.foldl_cons, List.foldl_nil, List.setIfInBounds_toArray, List.set_cons_zero, List.set_cons_succ]
    clear ow3 ow4 ow5
    go_wp2
    try simp only [setCell_drawn]
    refine bodyPost_ret (by first | (simp [results, Tryd.results4, go_sem]; done) | (simp [results, Tryd.results4, go_sem]; rfl)) rfl ⟨?_, hW4⟩
    rfl

set_option maxRecDepth 100000 in
theorem lifted (os : Os) (started : os.Started) (H : Type) (enc : TypeId × Value → H) :
    ReturnsInHanded {} Tryd.checked os 4 .any (fun w args => (Rows.ratioOrdersSpec.pre enc Tryd.prog Tryd.f4 [] false w args ∧ laidMetH Tryd.prog lay3 w) ∧ sizedMet enc Tryd.prog Tryd.f4 (OpenSpec.ofChange Rows.ratioOrdersSpec) false w args) (Rows.ratioOrdersSpec.post enc Tryd.prog Tryd.f4 false true false false) := by
  refine returnsInHanded_of_change_and (C := Tryd.checked) (X := fun w _ => laidMetH Tryd.prog lay3 w) (fun _ _ _ hh h => h.of_heap hh) own started (by kernel_rfl) Tryd.func4
    (ChangeSpec.witness_shaped (enc := enc) (C := Tryd.checked) (os := os) (X := fun w _ => laidMetH Tryd.prog lay3 w) false (World.doorLaid Tryd.prog 400 os) #[.agg #[.int .u64 0, .int .u64 0, .int .u64 0, .int .u64 0, .int .u64 0, .int .u64 0, .int .u64 0, .int .u64 0], .agg #[.int .u64 0, .int .u64 0, .int .u64 0, .int .u64 0, .int .u64 0, .int .u64 0, .int .u64 0, .int .u64 0], .agg #[.int .u64 0, .int .u64 0, .int .u64 0, .int .u64 0, .int .u64 0, .int .u64 0, .int .u64 0, .int .u64 0]] 8 rfl (World.shaped_of_RefB (by kernel_rfl) (by kernel_rfl)) (by kernel_rfl) (by kernel_rfl) (by kernel_rfl) (door_met os _)) ?_
  intro W base args ds gs before hval0 hW _ _ hL _
  have hval : ∀ (j : Nat) t v, Tryd.f4.params[j]? = some t → args[j]? = some v → Value.okWide Tryd.prog W .any base t v := hval0
  have hW' := hW
  obtain ⟨p, q, hA0, hV, rfl, hfz, hnd⟩ := hW
  have hA : DataW.TrodAll enc Tryd.prog W 0 (fun _ => true) true Tryd.f4.params.toList args.toList ds p := hA0
  rw [Tryd.params4] at hA hval
  obtain ⟨v0, vs0, d0, ds0, p0, q0, hargs, rfl, rfl, h0, r0⟩ := trodAll_cons hA
  obtain ⟨v1, vs1, d1, ds1, p1, q1, rfl, rfl, rfl, h1, r1⟩ := trodAll_cons r0
  obtain ⟨v2, vs2, d2, ds2, p2, q2, rfl, rfl, rfl, h2, r2⟩ := trodAll_cons r1
  obtain ⟨rfl, rfl, rfl⟩ := trodAll_nil r2
  obtain rfl : args = #[v0, v1, v2] := by cases args; simp_all
  obtain ⟨rfl, rfl⟩ := trodVars_none hV
  have k0 := h0
  obtain ⟨an, ad, rfl, rfl, han, had⟩ := open_rat (hval 0 26 v0 rfl rfl) h0
  have k1 := h1
  obtain ⟨bn, bd, rfl, rfl, hbn, hbd⟩ := open_rat (hval 1 26 v1 rfl rfl) h1
  have k2 := h2
  obtain ⟨cn, cd, rfl, rfl, hcn, hcd⟩ := open_rat (hval 2 26 v2 rfl rfl) h2
  clear hA0 hval0
  refine (walk an ad bn bd cn cd W han had hbn hbd hcn hcd (pow_of hL)).mono fun e W' ⟨he, bel⟩ => ?_
  subst he
  exact ⟨_, rfl, _, _, _, [], _, [], hW', trodAll_mk1 (shut_bool Tryd.underlying4 _), (trodAll_cons_mk (Below.trod laidOut (by kernel_rfl) (of_decide_eq_true (by kernel_rfl)) k0 bel (fun x hx => by cases hx)) (trodAll_cons_mk (Below.trod laidOut (by kernel_rfl) (of_decide_eq_true (by kernel_rfl)) k1 bel (fun x hx => by cases hx)) (trodAll_cons_mk (Below.trod laidOut (by kernel_rfl) (of_decide_eq_true (by kernel_rfl)) k2 bel (fun x hx => by cases hx)) trodAll_mk0))), rfl, bel.frame _, fun h => by cases h⟩

theorem over : Rows.RatioOrdersSaid :=
  OpenClaim.holds_of_wide 4 Tryd.f4 rfl rfl rfl rfl rfl rfl rfl ⟨rfl, rfl, rfl, rfl, rfl⟩ rfl rfl rfl rfl rfl (by kernel_rfl) Tryd.func4 (by kernel_rfl)
    (of_decide_eq_true (by kernel_rfl)) (by unfold Func.isWrapper; first | (rw [if_pos (by decide +kernel)]; kernel_rfl) | (rw [if_neg (by decide +kernel)]; exact ⟨rfl, rfl⟩))
    (fun os started H enc _ => lifted os started H enc)

/-- THE STATEMENT -/
theorem proved : Rows.RatioOrdersCardSaid :=
  Claim7.holds_tied_plain_at .later [] [.data, .data, .data] true (true, "1257776ec2f943525cae0ea3fa6ca8f747039df282edcd0a3c662c9bd8a4046e") false
    over (fun _ h => by cases h) (by kernel_rfl) (fun _ h => by cases h) ratioOrders_row_tie rfl ⟨rfl, rfl⟩ (by kernel_rfl) rfl
    (fun f fn hf hfn => by
      obtain rfl : f = 4 := Option.some.inj ((show Tryd.prog.funcNamed "croft/croftlaw04.RatioOrders" = some 4 by kernel_rfl).symm.trans hf) |>.symm
      obtain rfl : fn = Tryd.f4 := (Option.some.inj (Tryd.func4.symm.trans hfn)).symm
      exact ⟨by kernel_rfl, fun j t ht => by
        rw [Tryd.params4] at ht
        have hm : t ∈ [26, 26, 26] := by simpa using Array.mem_of_getElem? ht
        have hall : ([26, 26, 26].all fun u => !Tryd.prog.wantsStandIn u) = true := by kernel_rfl
        exact (show Tryd.prog.wantsStandIn t = false by simpa using List.all_eq_true.1 hall t hm)⟩)
    (by kernel_rfl)
#print axioms proved
end Go.Proofs.YtoondjildbanhaaDoor.ratioOrders
