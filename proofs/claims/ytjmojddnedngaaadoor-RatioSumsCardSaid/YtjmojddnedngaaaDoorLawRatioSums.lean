/- RatioSums: sums and differences of any two fractions are the document's, or refused as it says: for every two fractions, right or not; the tables start as the program's text lays them. -/
import Derived.Test.YtjmojddnedngaaaDoorRows
import Derived.Test.YtjmojddnedngaaaDoorRefT
import Derived.Test.YtjmojddnedngaaaDoorDo1
import Derived.Test.YtjmojddnedngaaaDoorQatE
import Derived.Test.YtjmojddnedngaaaDoorDoO
import Derived.Test.YtjmojddnedngaaaDoorRatF
import Derived.Test.YtjmojddnedngaaaDoorWideT
import Derived.WalkKit
import Derived.ProofKit
import Derived.OpenShut
import Derived.ShutString
import Derived.ChangeOld
import Derived.Below
import Derived.SliceStrings
import Derived.Test.YtjmojddnedngaaaDoorCards
import Derived.Test.YtjmojddnedngaaaDoorTie
import Derived.LaidMore
import Derived.Stop.Joined
import Derived.SevenTiedAt
namespace Go.Proofs.YtjmojddnedngaaaDoor.ratioSums
open Go.ChangeShapes Go.WideShapes Go.ChangeAt Go.RowKit
open Go.ChangeMaps (open_string shut_string)
set_option linter.unusedVariables false

set_option linter.unusedSimpArgs false

theorem own : ownKnob Tryd.prog.godebug = none := by kernel_rfl
theorem laidOut : laidOutB Tryd.prog = true := by kernel_rfl

set_option maxHeartbeats 16000000 in
set_option maxRecDepth 20000 in
theorem walk (an ad : Int) (bn bd : Int) (w : World) (han : Fit an) (had : Fit ad) (hbn : Fit bn) (hbd : Fit bd) (hp : Pow10 w) :
    Calls Tryd.prog 3 #[.agg #[.int .u64 (L0 an), .int .u64 (L1 an), .int .u64 (L2 an), .int .u64 (L3 an), .int .u64 (L0 ad), .int .u64 (L1 ad), .int .u64 (L2 ad), .int .u64 (L3 ad)], .agg #[.int .u64 (L0 bn), .int .u64 (L1 bn), .int .u64 (L2 bn), .int .u64 (L3 bn), .int .u64 (L0 bd), .int .u64 (L1 bd), .int .u64 (L2 bd), .int .u64 (L3 bd)]] w fun e w' => e = .returned (.bool true) ∧ Below w.heap.size w w' := by
  have C1 : RowKit.Hid (∀ w : World, Calls Tryd.prog 4 #[.agg #[.int .u64 (L0 an), .int .u64 (L1 an), .int .u64 (L2 an), .int .u64 (L3 an), .int .u64 (L0 ad), .int .u64 (L1 ad), .int .u64 (L2 ad), .int .u64 (L3 ad)], .agg #[.int .u64 (L0 bn), .int .u64 (L1 bn), .int .u64 (L2 bn), .int .u64 (L3 bn), .int .u64 (L0 bd), .int .u64 (L1 bd), .int .u64 (L2 bd), .int .u64 (L3 bd)]] w fun e w' => e = .returned (.tuple #[.agg #[.int .u64 (L0 (rkP an ad bn bd (fb (an * bd) && fb (bn * ad) && fb (an * bd + bn * ad) && fb (ad * bd)) (an * bd + bn * ad) (ad * bd))), .int .u64 (L1 (rkP an ad bn bd (fb (an * bd) && fb (bn * ad) && fb (an * bd + bn * ad) && fb (ad * bd)) (an * bd + bn * ad) (ad * bd))), .int .u64 (L2 (rkP an ad bn bd (fb (an * bd) && fb (bn * ad) && fb (an * bd + bn * ad) && fb (ad * bd)) (an * bd + bn * ad) (ad * bd))), .int .u64 (L3 (rkP an ad bn bd (fb (an * bd) && fb (bn * ad) && fb (an * bd + bn * ad) && fb (ad * bd)) (an * bd + bn * ad) (ad * bd))), .int .u64 (L0 (rkQ an ad bn bd (fb (an * bd) && fb (bn * ad) && fb (an * bd + bn * ad) && fb (ad * bd)) (an * bd + bn * ad) (ad * bd))), .int .u64 (L1 (rkQ an ad bn bd (fb (an * bd) && fb (bn * ad) && fb (an * bd + bn * ad) && fb (ad * bd)) (an * bd + bn * ad) (ad * bd))), .int .u64 (L2 (rkQ an ad bn bd (fb (an * bd) && fb (bn * ad) && fb (an * bd + bn * ad) && fb (ad * bd)) (an * bd + bn * ad) (ad * bd))), .int .u64 (L3 (rkQ an ad bn bd (fb (an * bd) && fb (bn * ad) && fb (an * bd + bn * ad) && fb (ad * bd)) (an * bd + bn * ad) (ad * bd)))], .int .i64 (rkE an ad bn bd (fb (an * bd) && fb (bn * ad) && fb (an * bd + bn * ad) && fb (ad * bd)) (an * bd + bn * ad) (ad * bd))]) ∧ Below w.heap.size w w') := Lib.hid (fun w => RAdd_all han had hbn hbd w)
  have D1 : RowKit.Hid (∀ w : World, Calls Tryd.prog 6 #[.int .i64 0, .agg #[.int .u64 (L0 an), .int .u64 (L1 an), .int .u64 (L2 an), .int .u64 (L3 an), .int .u64 (L0 ad), .int .u64 (L1 ad), .int .u64 (L2 ad), .int .u64 (L3 ad)], .agg #[.int .u64 (L0 bn), .int .u64 (L1 bn), .int .u64 (L2 bn), .int .u64 (L3 bn), .int .u64 (L0 bd), .int .u64 (L1 bd), .int .u64 (L2 bd), .int .u64 (L3 bd)]] w fun e w' => e = .returned (.tuple #[.agg #[.int .u64 (L0 (rkP an ad bn bd (fb (an * bd) && fb (bn * ad) && fb (an * bd + bn * ad) && fb (ad * bd)) (an * bd + bn * ad) (ad * bd))), .int .u64 (L1 (rkP an ad bn bd (fb (an * bd) && fb (bn * ad) && fb (an * bd + bn * ad) && fb (ad * bd)) (an * bd + bn * ad) (ad * bd))), .int .u64 (L2 (rkP an ad bn bd (fb (an * bd) && fb (bn * ad) && fb (an * bd + bn * ad) && fb (ad * bd)) (an * bd + bn * ad) (ad * bd))), .int .u64 (L3 (rkP an ad bn bd (fb (an * bd) && fb (bn * ad) && fb (an * bd + bn * ad) && fb (ad * bd)) (an * bd + bn * ad) (ad * bd))), .int .u64 (L0 (rkQ an ad bn bd (fb (an * bd) && fb (bn * ad) && fb (an * bd + bn * ad) && fb (ad * bd)) (an * bd + bn * ad) (ad * bd))), .int .u64 (L1 (rkQ an ad bn bd (fb (an * bd) && fb (bn * ad) && fb (an * bd + bn * ad) && fb (ad * bd)) (an * bd + bn * ad) (ad * bd))), .int .u64 (L2 (rkQ an ad bn bd (fb (an * bd) && fb (bn * ad) && fb (an * bd + bn * ad) && fb (ad * bd)) (an * bd + bn * ad) (ad * bd))), .int .u64 (L3 (rkQ an ad bn bd (fb (an * bd) && fb (bn * ad) && fb (an * bd + bn * ad) && fb (ad * bd)) (an * bd + bn * ad) (ad * bd)))], .int .i64 (rkE an ad bn bd (fb (an * bd) && fb (bn * ad) && fb (an * bd + bn * ad) && fb (ad * bd)) (an * bd + bn * ad) (ad * bd))]) ∧ Below w.heap.size w w') := Lib.hid (fun w => do_0 han had hbn hbd w)
  have hsp := rkP_fit an ad bn bd (fb (an * bd) && fb (bn * ad) && fb (an * bd + bn * ad) && fb (ad * bd)) (an * bd + bn * ad) (ad * bd)
  have hsq := rkQ_fit an ad bn bd (fb (an * bd) && fb (bn * ad) && fb (an * bd + bn * ad) && fb (ad * bd)) (an * bd + bn * ad) (ad * bd)
  generalize rkP an ad bn bd (fb (an * bd) && fb (bn * ad) && fb (an * bd + bn * ad) && fb (ad * bd)) (an * bd + bn * ad) (ad * bd) = sp at *
  generalize rkQ an ad bn bd (fb (an * bd) && fb (bn * ad) && fb (an * bd + bn * ad) && fb (ad * bd)) (an * bd + bn * ad) (ad * bd) = sq at *
  generalize rkE an ad bn bd (fb (an * bd) && fb (bn * ad) && fb (an * bd + bn * ad) && fb (ad * bd)) (an * bd + bn * ad) (ad * bd) = er at *
  have C2 : RowKit.Hid (∀ w : World, Calls Tryd.prog 5 #[.agg #[.int .u64 (L0 an), .int .u64 (L1 an), .int .u64 (L2 an), .int .u64 (L3 an), .int .u64 (L0 ad), .int .u64 (L1 ad), .int .u64 (L2 ad), .int .u64 (L3 ad)], .agg #[.int .u64 (L0 bn), .int .u64 (L1 bn), .int .u64 (L2 bn), .int .u64 (L3 bn), .int .u64 (L0 bd), .int .u64 (L1 bd), .int .u64 (L2 bd), .int .u64 (L3 bd)]] w fun e w' => e = .returned (.tuple #[.agg #[.int .u64 (L0 (rkP an ad bn bd (fb (an * bd) && fb (bn * ad) && fb (an * bd - bn * ad) && fb (ad * bd)) (an * bd - bn * ad) (ad * bd))), .int .u64 (L1 (rkP an ad bn bd (fb (an * bd) && fb (bn * ad) && fb (an * bd - bn * ad) && fb (ad * bd)) (an * bd - bn * ad) (ad * bd))), .int .u64 (L2 (rkP an ad bn bd (fb (an * bd) && fb (bn * ad) && fb (an * bd - bn * ad) && fb (ad * bd)) (an * bd - bn * ad) (ad * bd))), .int .u64 (L3 (rkP an ad bn bd (fb (an * bd) && fb (bn * ad) && fb (an * bd - bn * ad) && fb (ad * bd)) (an * bd - bn * ad) (ad * bd))), .int .u64 (L0 (rkQ an ad bn bd (fb (an * bd) && fb (bn * ad) && fb (an * bd - bn * ad) && fb (ad * bd)) (an * bd - bn * ad) (ad * bd))), .int .u64 (L1 (rkQ an ad bn bd (fb (an * bd) && fb (bn * ad) && fb (an * bd - bn * ad) && fb (ad * bd)) (an * bd - bn * ad) (ad * bd))), .int .u64 (L2 (rkQ an ad bn bd (fb (an * bd) && fb (bn * ad) && fb (an * bd - bn * ad) && fb (ad * bd)) (an * bd - bn * ad) (ad * bd))), .int .u64 (L3 (rkQ an ad bn bd (fb (an * bd) && fb (bn * ad) && fb (an * bd - bn * ad) && fb (ad * bd)) (an * bd - bn * ad) (ad * bd)))], .int .i64 (rkE an ad bn bd (fb (an * bd) && fb (bn * ad) && fb (an * bd - bn * ad) && fb (ad * bd)) (an * bd - bn * ad) (ad * bd))]) ∧ Below w.heap.size w w') := Lib.hid (fun w => RSub_all han had hbn hbd w)
  have D2 : RowKit.Hid (∀ w : World, Calls Tryd.prog 6 #[.int .i64 1, .agg #[.int .u64 (L0 an), .int .u64 (L1 an), .int .u64 (L2 an), .int .u64 (L3 an), .int .u64 (L0 ad), .int .u64 (L1 ad), .int .u64 (L2 ad), .int .u64 (L3 ad)], .agg #[.int .u64 (L0 bn), .int .u64 (L1 bn), .int .u64 (L2 bn), .int .u64 (L3 bn), .int .u64 (L0 bd), .int .u64 (L1 bd), .int .u64 (L2 bd), .int .u64 (L3 bd)]] w fun e w' => e = .returned (.tuple #[.agg #[.int .u64 (L0 (rkP an ad bn bd (fb (an * bd) && fb (bn * ad) && fb (an * bd - bn * ad) && fb (ad * bd)) (an * bd - bn * ad) (ad * bd))), .int .u64 (L1 (rkP an ad bn bd (fb (an * bd) && fb (bn * ad) && fb (an * bd - bn * ad) && fb (ad * bd)) (an * bd - bn * ad) (ad * bd))), .int .u64 (L2 (rkP an ad bn bd (fb (an * bd) && fb (bn * ad) && fb (an * bd - bn * ad) && fb (ad * bd)) (an * bd - bn * ad) (ad * bd))), .int .u64 (L3 (rkP an ad bn bd (fb (an * bd) && fb (bn * ad) && fb (an * bd - bn * ad) && fb (ad * bd)) (an * bd - bn * ad) (ad * bd))), .int .u64 (L0 (rkQ an ad bn bd (fb (an * bd) && fb (bn * ad) && fb (an * bd - bn * ad) && fb (ad * bd)) (an * bd - bn * ad) (ad * bd))), .int .u64 (L1 (rkQ an ad bn bd (fb (an * bd) && fb (bn * ad) && fb (an * bd - bn * ad) && fb (ad * bd)) (an * bd - bn * ad) (ad * bd))), .int .u64 (L2 (rkQ an ad bn bd (fb (an * bd) && fb (bn * ad) && fb (an * bd - bn * ad) && fb (ad * bd)) (an * bd - bn * ad) (ad * bd))), .int .u64 (L3 (rkQ an ad bn bd (fb (an * bd) && fb (bn * ad) && fb (an * bd - bn * ad) && fb (ad * bd)) (an * bd - bn * ad) (ad * bd)))], .int .i64 (rkE an ad bn bd (fb (an * bd) && fb (bn * ad) && fb (an * bd - bn * ad) && fb (ad * bd)) (an * bd - bn * ad) (ad * bd))]) ∧ Below w.heap.size w w') := Lib.hid (fun w => do_1 han had hbn hbd w)
  have htp := rkP_fit an ad bn bd (fb (an * bd) && fb (bn * ad) && fb (an * bd - bn * ad) && fb (ad * bd)) (an * bd - bn * ad) (ad * bd)
  have htq := rkQ_fit an ad bn bd (fb (an * bd) && fb (bn * ad) && fb (an * bd - bn * ad) && fb (ad * bd)) (an * bd - bn * ad) (ad * bd)
  generalize rkP an ad bn bd (fb (an * bd) && fb (bn * ad) && fb (an * bd - bn * ad) && fb (ad * bd)) (an * bd - bn * ad) (ad * bd) = tp at *
  generalize rkQ an ad bn bd (fb (an * bd) && fb (bn * ad) && fb (an * bd - bn * ad) && fb (ad * bd)) (an * bd - bn * ad) (ad * bd) = tq at *
  generalize rkE an ad bn bd (fb (an * bd) && fb (bn * ad) && fb (an * bd - bn * ad) && fb (ad * bd)) (an * bd - bn * ad) (ad * bd) = fr at *
  go_enter Tryd.func3, Tryd.ntmps3
  go_upto_region 1 with fail
  go_name_world W0 hW0e
  have ow2 : Own W0 w.heap.size 26 #[.int .u64 (L0 an), .int .u64 (L1 an), .int .u64 (L2 an), .int .u64 (L3 an), .int .u64 (L0 ad), .int .u64 (L1 ad), .int .u64 (L2 ad), .int .u64 (L3 ad)] := hW0e ▸ (by repeat' (first | (with_reducible assumption) | (with_reducible refine Own.drawnN ?_ _) | (with_reducible refine Own.drawn ?_) | (with_reducible refine Own.made_at ?_; first | rfl | (simp; done) | omega | (simp; omega)) | (with_reducible refine Own.more ?_ _) | (with_reducible refine Own.apart ?_ ?_ _ _; rotate_left; first | omega | (simp; done) | (simp; omega)) | (refine Own.put ?_ _ _)))
  have ow3 : Own W0 (w.heap.size + 1) 26 #[.int .u64 (L0 bn), .int .u64 (L1 bn), .int .u64 (L2 bn), .int .u64 (L3 bn), .int .u64 (L0 bd), .int .u64 (L1 bd), .int .u64 (L2 bd), .int .u64 (L3 bd)] := hW0e ▸ (by repeat' (first | (with_reducible assumption) | (with_reducible refine Own.drawnN ?_ _) | (with_reducible refine Own.drawn ?_) | (with_reducible refine Own.made_at ?_; first | rfl | (simp; done) | omega | (simp; omega)) | (with_reducible refine Own.more ?_ _) | (with_reducible refine Own.apart ?_ ?_ _ _; rotate_left; first | omega | (simp; done) | (simp; omega)) | (refine Own.put ?_ _ _)))
  have hW0 : Below w.heap.size w W0 := hW0e ▸ (by repeat' (first | (with_reducible exact Below.refl _ _) | (with_reducible assumption) | (with_reducible refine below_drewN ?_ _) | (with_reducible refine Below.drew ?_) | (with_reducible refine Below.alloc ?_ ?_ _) | (with_reducible refine Below.setCell ?_ ?_ _) | (with_reducible refine then_ ?_ (by with_reducible assumption) ?_) | (with_reducible exact Nat.le_refl _) | (with_reducible exact Nat.le_succ _) | (with_reducible exact Nat.le_succ_of_le (by with_reducible assumption)) | omega | (simp; done) | (simp; omega) | (exact Nat.le_succ _) | (exact Nat.le_succ_of_le (by with_reducible assumption))))
  clear hW0e
  have zown := ow3.in_
  go_upto_region 1 with fail
  refine region_memo_f (B := W0.heap.size) (L := .val (.agg #[.int .u64 (L0 an), .int .u64 (L1 an), .int .u64 (L2 an), .int .u64 (L3 an), .int .u64 (L0 ad), .int .u64 (L1 ad), .int .u64 (L2 ad), .int .u64 (L3 ad)]) :: .val (.agg #[.int .u64 (L0 bn), .int .u64 (L1 bn), .int .u64 (L2 bn), .int .u64 (L3 bn), .int .u64 (L0 bd), .int .u64 (L1 bd), .int .u64 (L2 bd), .int .u64 (L3 bd)]) :: .val (.tuple #[.agg #[.int .u64 (L0 sp), .int .u64 (L1 sp), .int .u64 (L2 sp), .int .u64 (L3 sp), .int .u64 (L0 sq), .int .u64 (L1 sq), .int .u64 (L2 sq), .int .u64 (L3 sq)], .int .i64 er]) :: .val (.tuple #[.agg #[.int .u64 (L0 sp), .int .u64 (L1 sp), .int .u64 (L2 sp), .int .u64 (L3 sp), .int .u64 (L0 sq), .int .u64 (L1 sq), .int .u64 (L2 sq), .int .u64 (L3 sq)], .int .i64 er]) :: .val (.agg #[.int .u64 (L0 sp), .int .u64 (L1 sp), .int .u64 (L2 sp), .int .u64 (L3 sp), .int .u64 (L0 sq), .int .u64 (L1 sq), .int .u64 (L2 sq), .int .u64 (L3 sq)]) :: .val (.int .i64 er) :: .blk 26 8 :: .put 5 26 #[.int .u64 (L0 sp), .int .u64 (L1 sp), .int .u64 (L2 sp), .int .u64 (L3 sp), .int .u64 (L0 sq), .int .u64 (L1 sq), .int .u64 (L2 sq), .int .u64 (L3 sq)] :: .val (.int .i64 er) :: []) (by kernel_rfl) (Nat.le_refl _) ((by exact trivial))
    ⟨fun a w R => ld_R (R.slot 2 rfl) (R.keep ow2 trivial) rfl rfl rfl rfl rfl rfl rfl rfl, fun a w R => ld_R (R.slot 3 rfl) (R.keep ow3 trivial) rfl rfl rfl rfl rfl rfl rfl rfl, fun a w R => cl_tt (enter_at Tryd.func4) (R.val 0) (R.val 1) (C1.out _), fun a w R => mv (R.val 2), fun a w R => ex0 (R.val 3), fun a w R => ex1 (R.val 3), fun a w R => al_R, fun a w R => sb_R (R.dep 6) (R.val 4), fun a w R => asg (R.val 5), trivial⟩ (fun act_ W1 I => ?_)
  obtain ⟨gb5, ew5, lw5, ow5⟩ := I.put 7 rfl rfl
  rw [I.act [(14, .agg #[.int .u64 (L0 an), .int .u64 (L1 an), .int .u64 (L2 an), .int .u64 (L3 an), .int .u64 (L0 ad), .int .u64 (L1 ad), .int .u64 (L2 ad), .int .u64 (L3 ad)]), (15, .agg #[.int .u64 (L0 bn), .int .u64 (L1 bn), .int .u64 (L2 bn), .int .u64 (L3 bn), .int .u64 (L0 bd), .int .u64 (L1 bd), .int .u64 (L2 bd), .int .u64 (L3 bd)]), (16, .tuple #[.agg #[.int .u64 (L0 sp), .int .u64 (L1 sp), .int .u64 (L2 sp), .int .u64 (L3 sp), .int .u64 (L0 sq), .int .u64 (L1 sq), .int .u64 (L2 sq), .int .u64 (L3 sq)], .int .i64 er]), (13, .tuple #[.agg #[.int .u64 (L0 sp), .int .u64 (L1 sp), .int .u64 (L2 sp), .int .u64 (L3 sp), .int .u64 (L0 sq), .int .u64 (L1 sq), .int .u64 (L2 sq), .int .u64 (L3 sq)], .int .i64 er]), (17, .agg #[.int .u64 (L0 sp), .int .u64 (L1 sp), .int .u64 (L2 sp), .int .u64 (L3 sp), .int .u64 (L0 sq), .int .u64 (L1 sq), .int .u64 (L2 sq), .int .u64 (L3 sq)]), (18, .int .i64 er), (5, .pointer (some ⟨gb5, 0, none⟩)), (6, .int .i64 er)]
    ⟨I.val 0, I.val 1, I.val 2, I.val 3, I.val 4, I.val 5, ew5, I.val 8, trivial⟩ rfl]
  change W0.heap.size ≤ gb5 at lw5
  have sW1 : W0.heap.size ≤ W1.heap.size := I.below.size
  replace ow2 := I.keep ow2 trivial
  replace ow3 := I.keep ow3 trivial
  have hW1 : Below w.heap.size w W1 := then_ hW0 I.below hW0.size
  clear ew5
  clear I
  simp only [List.foldl_cons, List.foldl_nil, List.setIfInBounds_toArray, List.set_cons_zero, List.set_cons_succ]
  go_upto_region 2 with fail
  refine region_memo_f (B := W1.heap.size) (L := .val (.agg #[.int .u64 (L0 an), .int .u64 (L1 an), .int .u64 (L2 an), .int .u64 (L3 an), .int .u64 (L0 ad), .int .u64 (L1 ad), .int .u64 (L2 ad), .int .u64 (L3 ad)]) :: .val (.agg #[.int .u64 (L0 bn), .int .u64 (L1 bn), .int .u64 (L2 bn), .int .u64 (L3 bn), .int .u64 (L0 bd), .int .u64 (L1 bd), .int .u64 (L2 bd), .int .u64 (L3 bd)]) :: .val (.tuple #[.agg #[.int .u64 (L0 tp), .int .u64 (L1 tp), .int .u64 (L2 tp), .int .u64 (L3 tp), .int .u64 (L0 tq), .int .u64 (L1 tq), .int .u64 (L2 tq), .int .u64 (L3 tq)], .int .i64 fr]) :: .val (.tuple #[.agg #[.int .u64 (L0 tp), .int .u64 (L1 tp), .int .u64 (L2 tp), .int .u64 (L3 tp), .int .u64 (L0 tq), .int .u64 (L1 tq), .int .u64 (L2 tq), .int .u64 (L3 tq)], .int .i64 fr]) :: .val (.agg #[.int .u64 (L0 tp), .int .u64 (L1 tp), .int .u64 (L2 tp), .int .u64 (L3 tp), .int .u64 (L0 tq), .int .u64 (L1 tq), .int .u64 (L2 tq), .int .u64 (L3 tq)]) :: .val (.int .i64 fr) :: .blk 26 8 :: .put 7 26 #[.int .u64 (L0 tp), .int .u64 (L1 tp), .int .u64 (L2 tp), .int .u64 (L3 tp), .int .u64 (L0 tq), .int .u64 (L1 tq), .int .u64 (L2 tq), .int .u64 (L3 tq)] :: .val (.int .i64 fr) :: []) (by kernel_rfl) (Nat.le_refl _) ((by exact trivial))
    ⟨fun a w R => ld_R (R.slot 2 rfl) (R.keep ow2 trivial) rfl rfl rfl rfl rfl rfl rfl rfl, fun a w R => ld_R (R.slot 3 rfl) (R.keep ow3 trivial) rfl rfl rfl rfl rfl rfl rfl rfl, fun a w R => cl_tt (enter_at Tryd.func5) (R.val 0) (R.val 1) (C2.out _), fun a w R => mv (R.val 2), fun a w R => ex0 (R.val 3), fun a w R => ex1 (R.val 3), fun a w R => al_R, fun a w R => sb_R (R.dep 6) (R.val 4), fun a w R => asg (R.val 5), trivial⟩ (fun act_ W2 I => ?_)
  obtain ⟨gb7, ew7, lw7, ow7⟩ := I.put 7 rfl rfl
  rw [I.act [(20, .agg #[.int .u64 (L0 an), .int .u64 (L1 an), .int .u64 (L2 an), .int .u64 (L3 an), .int .u64 (L0 ad), .int .u64 (L1 ad), .int .u64 (L2 ad), .int .u64 (L3 ad)]), (21, .agg #[.int .u64 (L0 bn), .int .u64 (L1 bn), .int .u64 (L2 bn), .int .u64 (L3 bn), .int .u64 (L0 bd), .int .u64 (L1 bd), .int .u64 (L2 bd), .int .u64 (L3 bd)]), (22, .tuple #[.agg #[.int .u64 (L0 tp), .int .u64 (L1 tp), .int .u64 (L2 tp), .int .u64 (L3 tp), .int .u64 (L0 tq), .int .u64 (L1 tq), .int .u64 (L2 tq), .int .u64 (L3 tq)], .int .i64 fr]), (19, .tuple #[.agg #[.int .u64 (L0 tp), .int .u64 (L1 tp), .int .u64 (L2 tp), .int .u64 (L3 tp), .int .u64 (L0 tq), .int .u64 (L1 tq), .int .u64 (L2 tq), .int .u64 (L3 tq)], .int .i64 fr]), (23, .agg #[.int .u64 (L0 tp), .int .u64 (L1 tp), .int .u64 (L2 tp), .int .u64 (L3 tp), .int .u64 (L0 tq), .int .u64 (L1 tq), .int .u64 (L2 tq), .int .u64 (L3 tq)]), (24, .int .i64 fr), (7, .pointer (some ⟨gb7, 0, none⟩)), (8, .int .i64 fr)]
    ⟨I.val 0, I.val 1, I.val 2, I.val 3, I.val 4, I.val 5, ew7, I.val 8, trivial⟩ rfl]
  change W1.heap.size ≤ gb7 at lw7
  have sW2 : W1.heap.size ≤ W2.heap.size := I.below.size
  replace ow2 := I.keep ow2 trivial
  replace ow3 := I.keep ow3 trivial
  replace ow5 := I.keep ow5 trivial
  have hW2 : Below w.heap.size w W2 := then_ hW1 I.below hW1.size
  clear ew7
  clear I
  simp only [List.foldl_cons, List.foldl_nil, List.setIfInBounds_toArray, List.set_cons_zero, List.set_cons_succ]
  go_upto_region 3 with fail
  refine region_memo (B := W2.heap.size) (L := .val (.agg #[.int .u64 (L0 an), .int .u64 (L1 an), .int .u64 (L2 an), .int .u64 (L3 an), .int .u64 (L0 ad), .int .u64 (L1 ad), .int .u64 (L2 ad), .int .u64 (L3 ad)]) :: .val (.agg #[.int .u64 (L0 an), .int .u64 (L1 an), .int .u64 (L2 an), .int .u64 (L3 an), .int .u64 (L0 ad), .int .u64 (L1 ad), .int .u64 (L2 ad), .int .u64 (L3 ad)]) :: .val (.agg #[.int .u64 (L0 bn), .int .u64 (L1 bn), .int .u64 (L2 bn), .int .u64 (L3 bn), .int .u64 (L0 bd), .int .u64 (L1 bd), .int .u64 (L2 bd), .int .u64 (L3 bd)]) :: .val (.agg #[.int .u64 (L0 bn), .int .u64 (L1 bn), .int .u64 (L2 bn), .int .u64 (L3 bn), .int .u64 (L0 bd), .int .u64 (L1 bd), .int .u64 (L2 bd), .int .u64 (L3 bd)]) :: .val (.tuple #[.agg #[.int .u64 (L0 sp), .int .u64 (L1 sp), .int .u64 (L2 sp), .int .u64 (L3 sp), .int .u64 (L0 sq), .int .u64 (L1 sq), .int .u64 (L2 sq), .int .u64 (L3 sq)], .int .i64 er]) :: .val (.tuple #[.agg #[.int .u64 (L0 sp), .int .u64 (L1 sp), .int .u64 (L2 sp), .int .u64 (L3 sp), .int .u64 (L0 sq), .int .u64 (L1 sq), .int .u64 (L2 sq), .int .u64 (L3 sq)], .int .i64 er]) :: .val (.agg #[.int .u64 (L0 sp), .int .u64 (L1 sp), .int .u64 (L2 sp), .int .u64 (L3 sp), .int .u64 (L0 sq), .int .u64 (L1 sq), .int .u64 (L2 sq), .int .u64 (L3 sq)]) :: .val (.int .i64 er) :: .blk 31 8 :: .put 9 31 #[.int .u64 (L0 sp), .int .u64 (L1 sp), .int .u64 (L2 sp), .int .u64 (L3 sp), .int .u64 (L0 sq), .int .u64 (L1 sq), .int .u64 (L2 sq), .int .u64 (L3 sq)] :: .val (.int .i64 er) :: []) (by kernel_rfl) (by kernel_rfl) (Nat.le_refl _) ((by exact trivial))
    ⟨fun a w R => ld_R (R.slot 2 rfl) (R.keep ow2.drawn trivial) rfl rfl rfl rfl rfl rfl rfl rfl, fun a w R => cl_t (enter_at Tryd.func7) (R.val 0) (plain_any _), fun a w R => ld_R (R.slot 3 rfl) (R.keep ow3.drawn trivial) rfl rfl rfl rfl rfl rfl rfl rfl, fun a w R => cl_t (enter_at Tryd.func7) (R.val 2) (plain_any _), fun a w R => cl_ktt (enter_at Tryd.func6) (R.val 1) (R.val 3) (D1.out _), fun a w R => mv (R.val 4), fun a w R => ex0 (R.val 5), fun a w R => ex1 (R.val 5), fun a w R => al_Q, fun a w R => sb_Q (R.dep 8) (R.val 6), fun a w R => asg (R.val 7), trivial⟩ (fun act_ W3 I => ?_)
  obtain ⟨gb9, ew9, lw9, ow9⟩ := I.put 9 rfl rfl
  rw [I.act [(26, .agg #[.int .u64 (L0 an), .int .u64 (L1 an), .int .u64 (L2 an), .int .u64 (L3 an), .int .u64 (L0 ad), .int .u64 (L1 ad), .int .u64 (L2 ad), .int .u64 (L3 ad)]), (27, .agg #[.int .u64 (L0 an), .int .u64 (L1 an), .int .u64 (L2 an), .int .u64 (L3 an), .int .u64 (L0 ad), .int .u64 (L1 ad), .int .u64 (L2 ad), .int .u64 (L3 ad)]), (28, .agg #[.int .u64 (L0 bn), .int .u64 (L1 bn), .int .u64 (L2 bn), .int .u64 (L3 bn), .int .u64 (L0 bd), .int .u64 (L1 bd), .int .u64 (L2 bd), .int .u64 (L3 bd)]), (29, .agg #[.int .u64 (L0 bn), .int .u64 (L1 bn), .int .u64 (L2 bn), .int .u64 (L3 bn), .int .u64 (L0 bd), .int .u64 (L1 bd), .int .u64 (L2 bd), .int .u64 (L3 bd)]), (30, .tuple #[.agg #[.int .u64 (L0 sp), .int .u64 (L1 sp), .int .u64 (L2 sp), .int .u64 (L3 sp), .int .u64 (L0 sq), .int .u64 (L1 sq), .int .u64 (L2 sq), .int .u64 (L3 sq)], .int .i64 er]), (25, .tuple #[.agg #[.int .u64 (L0 sp), .int .u64 (L1 sp), .int .u64 (L2 sp), .int .u64 (L3 sp), .int .u64 (L0 sq), .int .u64 (L1 sq), .int .u64 (L2 sq), .int .u64 (L3 sq)], .int .i64 er]), (31, .agg #[.int .u64 (L0 sp), .int .u64 (L1 sp), .int .u64 (L2 sp), .int .u64 (L3 sp), .int .u64 (L0 sq), .int .u64 (L1 sq), .int .u64 (L2 sq), .int .u64 (L3 sq)]), (32, .int .i64 er), (9, .pointer (some ⟨gb9, 0, none⟩)), (10, .int .i64 er)]
    ⟨I.val 0, I.val 1, I.val 2, I.val 3, I.val 4, I.val 5, I.val 6, I.val 7, ew9, I.val 10, trivial⟩ rfl]
  change W2.heap.size ≤ gb9 at lw9
  have sW3 : W2.heap.size ≤ W3.heap.size := I.below.size
  replace ow2 := I.keep ow2.drawn trivial
  replace ow3 := I.keep ow3.drawn trivial
  replace ow5 := I.keep ow5.drawn trivial
  replace ow7 := I.keep ow7.drawn trivial
  have hW3 : Below w.heap.size w W3 := then_ hW2.drew I.below hW2.size
  clear ew9
  clear I
  simp only [List.foldl_cons, List.foldl_nil, List.setIfInBounds_toArray, List.set_cons_zero, List.set_cons_succ]
  go_upto_region 4 with fail
  refine region_memo (B := W3.heap.size) (L := .val (.agg #[.int .u64 (L0 an), .int .u64 (L1 an), .int .u64 (L2 an), .int .u64 (L3 an), .int .u64 (L0 ad), .int .u64 (L1 ad), .int .u64 (L2 ad), .int .u64 (L3 ad)]) :: .val (.agg #[.int .u64 (L0 an), .int .u64 (L1 an), .int .u64 (L2 an), .int .u64 (L3 an), .int .u64 (L0 ad), .int .u64 (L1 ad), .int .u64 (L2 ad), .int .u64 (L3 ad)]) :: .val (.agg #[.int .u64 (L0 bn), .int .u64 (L1 bn), .int .u64 (L2 bn), .int .u64 (L3 bn), .int .u64 (L0 bd), .int .u64 (L1 bd), .int .u64 (L2 bd), .int .u64 (L3 bd)]) :: .val (.agg #[.int .u64 (L0 bn), .int .u64 (L1 bn), .int .u64 (L2 bn), .int .u64 (L3 bn), .int .u64 (L0 bd), .int .u64 (L1 bd), .int .u64 (L2 bd), .int .u64 (L3 bd)]) :: .val (.tuple #[.agg #[.int .u64 (L0 tp), .int .u64 (L1 tp), .int .u64 (L2 tp), .int .u64 (L3 tp), .int .u64 (L0 tq), .int .u64 (L1 tq), .int .u64 (L2 tq), .int .u64 (L3 tq)], .int .i64 fr]) :: .val (.tuple #[.agg #[.int .u64 (L0 tp), .int .u64 (L1 tp), .int .u64 (L2 tp), .int .u64 (L3 tp), .int .u64 (L0 tq), .int .u64 (L1 tq), .int .u64 (L2 tq), .int .u64 (L3 tq)], .int .i64 fr]) :: .val (.agg #[.int .u64 (L0 tp), .int .u64 (L1 tp), .int .u64 (L2 tp), .int .u64 (L3 tp), .int .u64 (L0 tq), .int .u64 (L1 tq), .int .u64 (L2 tq), .int .u64 (L3 tq)]) :: .val (.int .i64 fr) :: .blk 31 8 :: .put 11 31 #[.int .u64 (L0 tp), .int .u64 (L1 tp), .int .u64 (L2 tp), .int .u64 (L3 tp), .int .u64 (L0 tq), .int .u64 (L1 tq), .int .u64 (L2 tq), .int .u64 (L3 tq)] :: .val (.int .i64 fr) :: []) (by kernel_rfl) (by kernel_rfl) (Nat.le_refl _) ((by exact trivial))
    ⟨fun a w R => ld_R (R.slot 2 rfl) (R.keep ow2.drawn trivial) rfl rfl rfl rfl rfl rfl rfl rfl, fun a w R => cl_t (enter_at Tryd.func7) (R.val 0) (plain_any _), fun a w R => ld_R (R.slot 3 rfl) (R.keep ow3.drawn trivial) rfl rfl rfl rfl rfl rfl rfl rfl, fun a w R => cl_t (enter_at Tryd.func7) (R.val 2) (plain_any _), fun a w R => cl_ktt (enter_at Tryd.func6) (R.val 1) (R.val 3) (D2.out _), fun a w R => mv (R.val 4), fun a w R => ex0 (R.val 5), fun a w R => ex1 (R.val 5), fun a w R => al_Q, fun a w R => sb_Q (R.dep 8) (R.val 6), fun a w R => asg (R.val 7), trivial⟩ (fun act_ W4 I => ?_)
  obtain ⟨gb11, ew11, lw11, ow11⟩ := I.put 9 rfl rfl
  rw [I.act [(34, .agg #[.int .u64 (L0 an), .int .u64 (L1 an), .int .u64 (L2 an), .int .u64 (L3 an), .int .u64 (L0 ad), .int .u64 (L1 ad), .int .u64 (L2 ad), .int .u64 (L3 ad)]), (35, .agg #[.int .u64 (L0 an), .int .u64 (L1 an), .int .u64 (L2 an), .int .u64 (L3 an), .int .u64 (L0 ad), .int .u64 (L1 ad), .int .u64 (L2 ad), .int .u64 (L3 ad)]), (36, .agg #[.int .u64 (L0 bn), .int .u64 (L1 bn), .int .u64 (L2 bn), .int .u64 (L3 bn), .int .u64 (L0 bd), .int .u64 (L1 bd), .int .u64 (L2 bd), .int .u64 (L3 bd)]), (37, .agg #[.int .u64 (L0 bn), .int .u64 (L1 bn), .int .u64 (L2 bn), .int .u64 (L3 bn), .int .u64 (L0 bd), .int .u64 (L1 bd), .int .u64 (L2 bd), .int .u64 (L3 bd)]), (38, .tuple #[.agg #[.int .u64 (L0 tp), .int .u64 (L1 tp), .int .u64 (L2 tp), .int .u64 (L3 tp), .int .u64 (L0 tq), .int .u64 (L1 tq), .int .u64 (L2 tq), .int .u64 (L3 tq)], .int .i64 fr]), (33, .tuple #[.agg #[.int .u64 (L0 tp), .int .u64 (L1 tp), .int .u64 (L2 tp), .int .u64 (L3 tp), .int .u64 (L0 tq), .int .u64 (L1 tq), .int .u64 (L2 tq), .int .u64 (L3 tq)], .int .i64 fr]), (39, .agg #[.int .u64 (L0 tp), .int .u64 (L1 tp), .int .u64 (L2 tp), .int .u64 (L3 tp), .int .u64 (L0 tq), .int .u64 (L1 tq), .int .u64 (L2 tq), .int .u64 (L3 tq)]), (40, .int .i64 fr), (11, .pointer (some ⟨gb11, 0, none⟩)), (12, .int .i64 fr)]
    ⟨I.val 0, I.val 1, I.val 2, I.val 3, I.val 4, I.val 5, I.val 6, I.val 7, ew11, I.val 10, trivial⟩ rfl]
  change W3.heap.size ≤ gb11 at lw11
  have sW4 : W3.heap.size ≤ W4.heap.size := I.below.size
  replace ow2 := I.keep ow2.drawn trivial
  replace ow3 := I.keep ow3.drawn trivial
  replace ow5 := I.keep ow5.drawn trivial
  replace ow7 := I.keep ow7.drawn trivial
  replace ow9 := I.keep ow9.drawn trivial
  have hW4 : Below w.heap.size w W4 := then_ hW3.drew I.below hW3.size
  clear ew11
  clear I
  simp only [List.foldl_cons, List.foldl_nil, List.setIfInBounds_toArray, List.set_cons_zero, List.set_cons_succ]
  go_upto_region 5 with fail
  refine region_memo (B := W4.heap.size) (L := .val (.bool true) :: .val (.bool true) :: .val (.agg #[.int .u64 (L0 sp), .int .u64 (L1 sp), .int .u64 (L2 sp), .int .u64 (L3 sp), .int .u64 (L0 sq), .int .u64 (L1 sq), .int .u64 (L2 sq), .int .u64 (L3 sq)]) :: .val (.agg #[.int .u64 (L0 sp), .int .u64 (L1 sp), .int .u64 (L2 sp), .int .u64 (L3 sp), .int .u64 (L0 sq), .int .u64 (L1 sq), .int .u64 (L2 sq), .int .u64 (L3 sq)]) :: .val (.agg #[.int .u64 (L0 sp), .int .u64 (L1 sp), .int .u64 (L2 sp), .int .u64 (L3 sp), .int .u64 (L0 sq), .int .u64 (L1 sq), .int .u64 (L2 sq), .int .u64 (L3 sq)]) :: .val (.bool true) :: .val (.bool true) :: .val (.bool true) :: .val (.int .i64 er) :: .val (.int .i64 er) :: .val (.bool true) :: .val (.bool true) :: .val (.bool true) :: .val (.agg #[.int .u64 (L0 tp), .int .u64 (L1 tp), .int .u64 (L2 tp), .int .u64 (L3 tp), .int .u64 (L0 tq), .int .u64 (L1 tq), .int .u64 (L2 tq), .int .u64 (L3 tq)]) :: .val (.agg #[.int .u64 (L0 tp), .int .u64 (L1 tp), .int .u64 (L2 tp), .int .u64 (L3 tp), .int .u64 (L0 tq), .int .u64 (L1 tq), .int .u64 (L2 tq), .int .u64 (L3 tq)]) :: .val (.agg #[.int .u64 (L0 tp), .int .u64 (L1 tp), .int .u64 (L2 tp), .int .u64 (L3 tp), .int .u64 (L0 tq), .int .u64 (L1 tq), .int .u64 (L2 tq), .int .u64 (L3 tq)]) :: .val (.bool true) :: .val (.bool true) :: .val (.bool true) :: .val (.int .i64 fr) :: .val (.int .i64 fr) :: .val (.bool true) :: .val (.bool true) :: .val (.bool true) :: []) (by kernel_rfl) (by kernel_rfl) (Nat.le_refl _) ((by exact trivial))
    ⟨fun a w R => cl_0 (enter_at Tryd.func8)  (awake4 _ ((hp.keep hW4.drew).keep R.below)), fun a w R => mv (R.val 0), fun a w R => ld_R (R.slot 5 rfl) (R.keep ow5.drawn trivial) rfl rfl rfl rfl rfl rfl rfl rfl, fun a w R => cl_t (enter_at Tryd.func7) (R.val 2) (plain_any _), fun a w R => ld_Q (R.slot 9 rfl) (R.keep ow9.drawn trivial) rfl rfl rfl rfl rfl rfl rfl rfl, fun a w R => (e_eql_Q (R.val 3) (R.val 4) (fun w => (eq_Q hsp hsp hsq hsq w).trans (by simp))), fun a w R => pickt (R.val 1) (R.val 5), fun a w R => mv (R.val 6), fun a w R => mv (R.slot 6 rfl), fun a w R => mv (R.slot 10 rfl), fun a w R => c_eql_tt (R.val 8) (R.val 9) (Tryd.underlying3) (by simp), fun a w R => pickt (R.val 7) (R.val 10), fun a w R => mv (R.val 11), fun a w R => ld_R (R.slot 7 rfl) (R.keep ow7.drawn trivial) rfl rfl rfl rfl rfl rfl rfl rfl, fun a w R => cl_t (enter_at Tryd.func7) (R.val 13) (plain_any _), fun a w R => ld_Q (R.slot 11 rfl) (R.keep ow11.drawn trivial) rfl rfl rfl rfl rfl rfl rfl rfl, fun a w R => (e_eql_Q (R.val 14) (R.val 15) (fun w => (eq_Q htp htp htq htq w).trans (by simp))), fun a w R => pickt (R.val 12) (R.val 16), fun a w R => mv (R.val 17), fun a w R => mv (R.slot 8 rfl), fun a w R => mv (R.slot 12 rfl), fun a w R => c_eql_tt (R.val 19) (R.val 20) (Tryd.underlying3) (by simp), fun a w R => pickt (R.val 18) (R.val 21), fun a w R => asg (R.val 22), trivial⟩ (fun act_ W5 I => ?_)
  rw [I.act [(41, .bool true), (42, .bool true), (43, .agg #[.int .u64 (L0 sp), .int .u64 (L1 sp), .int .u64 (L2 sp), .int .u64 (L3 sp), .int .u64 (L0 sq), .int .u64 (L1 sq), .int .u64 (L2 sq), .int .u64 (L3 sq)]), (44, .agg #[.int .u64 (L0 sp), .int .u64 (L1 sp), .int .u64 (L2 sp), .int .u64 (L3 sp), .int .u64 (L0 sq), .int .u64 (L1 sq), .int .u64 (L2 sq), .int .u64 (L3 sq)]), (45, .agg #[.int .u64 (L0 sp), .int .u64 (L1 sp), .int .u64 (L2 sp), .int .u64 (L3 sp), .int .u64 (L0 sq), .int .u64 (L1 sq), .int .u64 (L2 sq), .int .u64 (L3 sq)]), (46, .bool true), (47, .bool true), (48, .bool true), (49, .int .i64 er), (50, .int .i64 er), (51, .bool true), (52, .bool true), (53, .bool true), (54, .agg #[.int .u64 (L0 tp), .int .u64 (L1 tp), .int .u64 (L2 tp), .int .u64 (L3 tp), .int .u64 (L0 tq), .int .u64 (L1 tq), .int .u64 (L2 tq), .int .u64 (L3 tq)]), (55, .agg #[.int .u64 (L0 tp), .int .u64 (L1 tp), .int .u64 (L2 tp), .int .u64 (L3 tp), .int .u64 (L0 tq), .int .u64 (L1 tq), .int .u64 (L2 tq), .int .u64 (L3 tq)]), (56, .agg #[.int .u64 (L0 tp), .int .u64 (L1 tp), .int .u64 (L2 tp), .int .u64 (L3 tp), .int .u64 (L0 tq), .int .u64 (L1 tq), .int .u64 (L2 tq), .int .u64 (L3 tq)]), (57, .bool true), (58, .bool true), (59, .bool true), (60, .int .i64 fr), (61, .int .i64 fr), (62, .bool true), (63, .bool true), (4, .bool true)]
    ⟨I.val 0, I.val 1, I.val 2, I.val 3, I.val 4, I.val 5, I.val 6, I.val 7, I.val 8, I.val 9, I.val 10, I.val 11, I.val 12, I.val 13, I.val 14, I.val 15, I.val 16, I.val 17, I.val 18, I.val 19, I.val 20, I.val 21, I.val 22, I.val 23, trivial⟩ rfl]
  have sW5 : W4.heap.size ≤ W5.heap.size := I.below.size
  replace ow2 := I.keep ow2.drawn trivial
  replace ow3 := I.keep ow3.drawn trivial
  replace ow5 := I.keep ow5.drawn trivial
  replace ow7 := I.keep ow7.drawn trivial
  replace ow9 := I.keep ow9.drawn trivial
  replace ow11 := I.keep ow11.drawn trivial
  have hW5 : Below w.heap.size w W5 := then_ hW4.drew I.below hW4.size
  clear I
  simp only [List.foldl_cons, List.foldl_nil, List.setIfInBounds_toArray, List.set_cons_zero, List.set_cons_succ]
  clear ow2 ow3 ow5 ow7 ow9 ow11
  go_wp2
  try simp only [setCell_drawn]
  refine bodyPost_ret (by first | (simp [results, Tryd.results3, go_sem]; done) | (simp [results, Tryd.results3, go_sem]; rfl)) rfl ⟨?_, hW5⟩
  rfl

set_option maxRecDepth 100000 in
theorem lifted (os : Os) (started : os.Started) (H : Type) (enc : TypeId × Value → H) :
    ReturnsInHanded {} Tryd.checked os 3 .any (fun w args => (Rows.ratioSumsSpec.pre enc Tryd.prog Tryd.f3 [] false w args ∧ laidMetH Tryd.prog lay3 w) ∧ sizedMet enc Tryd.prog Tryd.f3 (OpenSpec.ofChange Rows.ratioSumsSpec) false w args) (Rows.ratioSumsSpec.post enc Tryd.prog Tryd.f3 false true false false) := by
  refine returnsInHanded_of_change_and (C := Tryd.checked) (X := fun w _ => laidMetH Tryd.prog lay3 w) (fun _ _ _ hh h => h.of_heap hh) own started (by kernel_rfl) Tryd.func3
    (ChangeSpec.witness_shaped (enc := enc) (C := Tryd.checked) (os := os) (X := fun w _ => laidMetH Tryd.prog lay3 w) false (World.doorLaid Tryd.prog 400 os) #[.agg #[.int .u64 0, .int .u64 0, .int .u64 0, .int .u64 0, .int .u64 0, .int .u64 0, .int .u64 0, .int .u64 0], .agg #[.int .u64 0, .int .u64 0, .int .u64 0, .int .u64 0, .int .u64 0, .int .u64 0, .int .u64 0, .int .u64 0]] 8 rfl (World.shaped_of_RefB (by kernel_rfl) (by kernel_rfl)) (by kernel_rfl) (by kernel_rfl) (by kernel_rfl) (door_met os _)) ?_
  intro W base args ds gs before hval0 hW _ _ hL _
  have hval : ∀ (j : Nat) t v, Tryd.f3.params[j]? = some t → args[j]? = some v → Value.okWide Tryd.prog W .any base t v := hval0
  have hW' := hW
  obtain ⟨p, q, hA0, hV, rfl, hfz, hnd⟩ := hW
  have hA : DataW.TrodAll enc Tryd.prog W 0 (fun _ => true) true Tryd.f3.params.toList args.toList ds p := hA0
  rw [Tryd.params3] at hA hval
  obtain ⟨v0, vs0, d0, ds0, p0, q0, hargs, rfl, rfl, h0, r0⟩ := trodAll_cons hA
  obtain ⟨v1, vs1, d1, ds1, p1, q1, rfl, rfl, rfl, h1, r1⟩ := trodAll_cons r0
  obtain ⟨rfl, rfl, rfl⟩ := trodAll_nil r1
  obtain rfl : args = #[v0, v1] := by cases args; simp_all
  obtain ⟨rfl, rfl⟩ := trodVars_none hV
  have k0 := h0
  obtain ⟨an, ad, rfl, rfl, han, had⟩ := open_rat (hval 0 26 v0 rfl rfl) h0
  have k1 := h1
  obtain ⟨bn, bd, rfl, rfl, hbn, hbd⟩ := open_rat (hval 1 26 v1 rfl rfl) h1
  clear hA0 hval0
  refine (walk an ad bn bd W han had hbn hbd (pow_of hL)).mono fun e W' ⟨he, bel⟩ => ?_
  subst he
  exact ⟨_, rfl, _, _, _, [], _, [], hW', trodAll_mk1 (shut_bool Tryd.underlying4 _), (trodAll_cons_mk (Below.trod laidOut (by kernel_rfl) (of_decide_eq_true (by kernel_rfl)) k0 bel (fun x hx => by cases hx)) (trodAll_cons_mk (Below.trod laidOut (by kernel_rfl) (of_decide_eq_true (by kernel_rfl)) k1 bel (fun x hx => by cases hx)) trodAll_mk0)), rfl, bel.frame _, fun h => by cases h⟩

theorem over : Rows.RatioSumsSaid :=
  OpenClaim.holds_of_wide 3 Tryd.f3 rfl rfl rfl rfl rfl rfl rfl ⟨rfl, rfl, rfl, rfl, rfl⟩ rfl rfl rfl rfl rfl (by kernel_rfl) Tryd.func3 (by kernel_rfl)
    (of_decide_eq_true (by kernel_rfl)) (by unfold Func.isWrapper; first | (rw [if_pos (by decide +kernel)]; kernel_rfl) | (rw [if_neg (by decide +kernel)]; exact ⟨rfl, rfl⟩))
    (fun os started H enc _ => lifted os started H enc)

/-- THE STATEMENT -/
theorem proved : Rows.RatioSumsCardSaid :=
  Claim7.holds_tied_plain_at .later [] [.data, .data, .data] true (true, "54aa84ac8496544d8fd8ea7cfc57ea5fc34c6620ad0fdb931d5fc687173f230b") false
    over (fun _ h => by cases h) (by kernel_rfl) (fun _ h => by cases h) ratioSums_row_tie rfl ⟨rfl, rfl⟩ (by kernel_rfl) rfl
    (fun f fn hf hfn => by
      obtain rfl : f = 3 := Option.some.inj ((show Tryd.prog.funcNamed "croft/croftlaw04.RatioSums" = some 3 by kernel_rfl).symm.trans hf) |>.symm
      obtain rfl : fn = Tryd.f3 := (Option.some.inj (Tryd.func3.symm.trans hfn)).symm
      exact ⟨by kernel_rfl, fun j t ht => by
        rw [Tryd.params3] at ht
        have hm : t ∈ [26, 26] := by simpa using Array.mem_of_getElem? ht
        have hall : ([26, 26].all fun u => !Tryd.prog.wantsStandIn u) = true := by kernel_rfl
        exact (show Tryd.prog.wantsStandIn t = false by simpa using List.all_eq_true.1 hall t hm)⟩)
    (by kernel_rfl)
#print axioms proved
end Go.Proofs.YtjmojddnedngaaaDoor.ratioSums
