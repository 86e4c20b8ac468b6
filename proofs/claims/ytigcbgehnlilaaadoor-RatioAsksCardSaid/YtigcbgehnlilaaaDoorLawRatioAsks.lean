/- RatioAsks: whether a fraction is right, its sign, what is below it, its text, how it stands to another one are the document's: for every two fractions, right or not; the tables start as the program's text lays them. -/
import Derived.Test.YtigcbgehnlilaaaDoorRows
import Derived.Test.YtigcbgehnlilaaaDoorBytes
import Derived.Test.YtigcbgehnlilaaaDoorAskC
import Derived.Test.YtigcbgehnlilaaaDoorAskD
import Derived.Test.YtigcbgehnlilaaaDoorAskO
import Derived.Test.YtigcbgehnlilaaaDoorRts
import Derived.WalkKit
import Derived.ProofKit
import Derived.OpenShut
import Derived.ShutString
import Derived.ChangeOld
import Derived.Below
import Derived.SliceStrings
import Derived.Test.YtigcbgehnlilaaaDoorCards
import Derived.Test.YtigcbgehnlilaaaDoorTie
import Derived.LaidMore
import Derived.Stop.Joined
import Derived.SevenTiedAt
namespace Go.Proofs.YtigcbgehnlilaaaDoor.ratioAsks
open Go.ChangeShapes Go.WideShapes Go.ChangeAt Go.RowKit
open Go.ChangeMaps (open_string shut_string)
set_option linter.unusedVariables false

set_option linter.unusedSimpArgs false
theorem rright_is {n d : Int} {b : Bool} (hn : Fit n) (hd : Fit d) (h : decide (Rgt n d) = b) (w : World) : Calls Tryd.prog 15 #[.agg #[.int .u64 (L0 n), .int .u64 (L1 n), .int .u64 (L2 n), .int .u64 (L3 n), .int .u64 (L0 d), .int .u64 (L1 d), .int .u64 (L2 d), .int .u64 (L3 d)]] w fun e w' => e = .returned (.bool b) ∧ Below w.heap.size w w' := h ▸ rright_any hn hd w

theorem own : ownKnob Tryd.prog.godebug = none := by kernel_rfl
theorem laidOut : laidOutB Tryd.prog = true := by kernel_rfl

set_option maxHeartbeats 16000000 in
set_option maxRecDepth 20000 in
theorem walk (an ad : Int) (bn bd : Int) (w : World) (han : Fit an) (had : Fit ad) (hbn : Fit bn) (hbd : Fit bd) (hp : Pow10 w) :
    Calls Tryd.prog 6 #[.agg #[.int .u64 (L0 an), .int .u64 (L1 an), .int .u64 (L2 an), .int .u64 (L3 an), .int .u64 (L0 ad), .int .u64 (L1 ad), .int .u64 (L2 ad), .int .u64 (L3 ad)], .agg #[.int .u64 (L0 bn), .int .u64 (L1 bn), .int .u64 (L2 bn), .int .u64 (L3 bn), .int .u64 (L0 bd), .int .u64 (L1 bd), .int .u64 (L2 bd), .int .u64 (L3 bd)]] w fun e w' => e = .returned (.bool true) ∧ Below w.heap.size w w' := by
  obtain ⟨f, hfe⟩ : ∃ f, f = fl an ad := ⟨_, rfl⟩
  obtain ⟨X, hX⟩ : ∃ X, X = tx an ad := ⟨_, rfl⟩
  obtain ⟨cc, hcc⟩ : ∃ cc, cc = cmpZ (an * bd) (bn * ad) := ⟨_, rfl⟩
  have FP : RowKit.Hid (decide (Rgt an ad) = true → ∀ w : World, Calls Tryd.prog 17 #[.agg #[.int .u64 (L0 an), .int .u64 (L1 an), .int .u64 (L2 an), .int .u64 (L3 an), .int .u64 (L0 ad), .int .u64 (L1 ad), .int .u64 (L2 ad), .int .u64 (L3 ad)]] w fun e w' => e = .returned (.agg #[.int .u64 (L0 f), .int .u64 (L1 f), .int .u64 (L2 f), .int .u64 (L3 f)]) ∧ Below w.heap.size w w') := Lib.hid (fun h w => by rw [hfe]; exact RFloor_all han had h w)
  have FR : RowKit.Hid (decide (Rgt an ad) = true → ∀ w : World, Calls Tryd.prog 21 #[.agg #[.int .u64 (L0 an), .int .u64 (L1 an), .int .u64 (L2 an), .int .u64 (L3 an), .int .u64 (L0 ad), .int .u64 (L1 ad), .int .u64 (L2 ad), .int .u64 (L3 ad)]] w fun e w' => e = .returned (.agg #[.int .u64 (L0 f), .int .u64 (L1 f), .int .u64 (L2 f), .int .u64 (L3 f)]) ∧ Below w.heap.size w w') := Lib.hid (fun h w => by rw [hfe]; exact rfloor_any han had (of_decide_eq_true h : Rgt an ad).pos w)
  have TP : RowKit.Hid (decide (Rgt an ad) = true → ∀ w : World, Pow10 w → Calls Tryd.prog 18 #[.agg #[.int .u64 (L0 an), .int .u64 (L1 an), .int .u64 (L2 an), .int .u64 (L3 an), .int .u64 (L0 ad), .int .u64 (L1 ad), .int .u64 (L2 ad), .int .u64 (L3 ad)]] w fun e w' => e = .returned (.string X) ∧ Below w.heap.size w w') := Lib.hid (fun h w hp => by rw [hX]; exact RText_all han had h w hp)
  have TR : RowKit.Hid (∀ w : World, Calls Tryd.prog 22 #[.agg #[.int .u64 (L0 an), .int .u64 (L1 an), .int .u64 (L2 an), .int .u64 (L3 an), .int .u64 (L0 ad), .int .u64 (L1 ad), .int .u64 (L2 ad), .int .u64 (L3 ad)]] w fun e w' => e = .returned (.string X) ∧ Below w.heap.size w w') := Lib.hid (fun w => by rw [hX]; exact rtext_any han had w)
  have C0 : RowKit.Hid (decide (Rgt an ad) = false → ∀ w : World, Calls Tryd.prog 19 #[.agg #[.int .u64 (L0 an), .int .u64 (L1 an), .int .u64 (L2 an), .int .u64 (L3 an), .int .u64 (L0 ad), .int .u64 (L1 ad), .int .u64 (L2 ad), .int .u64 (L3 ad)], .agg #[.int .u64 (L0 bn), .int .u64 (L1 bn), .int .u64 (L2 bn), .int .u64 (L3 bn), .int .u64 (L0 bd), .int .u64 (L1 bd), .int .u64 (L2 bd), .int .u64 (L3 bd)]] w fun e w' => e = .returned (.int .i64 0) ∧ Below w.heap.size w w') := Lib.hid (fun h w => cmV_no1 (bn := bn) (bd := bd) h ▸ RCmp_any han had hbn hbd w)
  have C1 : RowKit.Hid (decide (Rgt bn bd) = false → ∀ w : World, Calls Tryd.prog 19 #[.agg #[.int .u64 (L0 an), .int .u64 (L1 an), .int .u64 (L2 an), .int .u64 (L3 an), .int .u64 (L0 ad), .int .u64 (L1 ad), .int .u64 (L2 ad), .int .u64 (L3 ad)], .agg #[.int .u64 (L0 bn), .int .u64 (L1 bn), .int .u64 (L2 bn), .int .u64 (L3 bn), .int .u64 (L0 bd), .int .u64 (L1 bd), .int .u64 (L2 bd), .int .u64 (L3 bd)]] w fun e w' => e = .returned (.int .i64 0) ∧ Below w.heap.size w w') := Lib.hid (fun h w => cmV_no2 (an := an) (ad := ad) h ▸ RCmp_any han had hbn hbd w)
  have C2 : RowKit.Hid (decide (Rgt an ad) = true → decide (Rgt bn bd) = true → ∀ w : World, Calls Tryd.prog 19 #[.agg #[.int .u64 (L0 an), .int .u64 (L1 an), .int .u64 (L2 an), .int .u64 (L3 an), .int .u64 (L0 ad), .int .u64 (L1 ad), .int .u64 (L2 ad), .int .u64 (L3 ad)], .agg #[.int .u64 (L0 bn), .int .u64 (L1 bn), .int .u64 (L2 bn), .int .u64 (L3 bn), .int .u64 (L0 bd), .int .u64 (L1 bd), .int .u64 (L2 bd), .int .u64 (L3 bd)]] w fun e w' => e = .returned (.int .i64 cc) ∧ Below w.heap.size w w') := Lib.hid (fun h k w => by rw [hcc, ← cmV_is h k]; exact RCmp_any han had hbn hbd w)
  have RC : RowKit.Hid (∀ w : World, Calls Tryd.prog 23 #[.agg #[.int .u64 (L0 an), .int .u64 (L1 an), .int .u64 (L2 an), .int .u64 (L3 an), .int .u64 (L0 ad), .int .u64 (L1 ad), .int .u64 (L2 ad), .int .u64 (L3 ad)], .agg #[.int .u64 (L0 bn), .int .u64 (L1 bn), .int .u64 (L2 bn), .int .u64 (L3 bn), .int .u64 (L0 bd), .int .u64 (L1 bd), .int .u64 (L2 bd), .int .u64 (L3 bd)]] w fun e w' => e = .returned (.int .i64 cc) ∧ Below w.heap.size w w') := Lib.hid (fun w => by rw [hcc]; exact rcmp_any han had hbn hbd w)
  have EF : RowKit.Hid (decide (f = f) = true) := Lib.hid (by simp)
  have E0 : RowKit.Hid (decide ((0 : Int) = 0) = true) := Lib.hid rfl
  have hf : RowKit.Hid (decide (Rgt an ad) = true → Fit f) := Lib.hid (fun h => by rw [hfe]; exact fl_fit han (of_decide_eq_true h : Rgt an ad).pos)
  clear hfe hX hcc
  go_enter Tryd.func6, Tryd.ntmps6
  go_upto_region 1 with fail
  go_name_world W0 hW0e
  have ow2 : Own W0 w.heap.size 26 #[.int .u64 (L0 an), .int .u64 (L1 an), .int .u64 (L2 an), .int .u64 (L3 an), .int .u64 (L0 ad), .int .u64 (L1 ad), .int .u64 (L2 ad), .int .u64 (L3 ad)] := hW0e ▸ (by repeat' (first | (with_reducible assumption) | (with_reducible refine Own.drawnN ?_ _) | (with_reducible refine Own.drawn ?_) | (with_reducible refine Own.made_at ?_; first | rfl | (simp; done) | omega | (simp; omega)) | (with_reducible refine Own.more ?_ _) | (with_reducible refine Own.apart ?_ ?_ _ _; rotate_left; first | omega | (simp; done) | (simp; omega)) | (refine Own.put ?_ _ _)))
  have ow3 : Own W0 (w.heap.size + 1) 26 #[.int .u64 (L0 bn), .int .u64 (L1 bn), .int .u64 (L2 bn), .int .u64 (L3 bn), .int .u64 (L0 bd), .int .u64 (L1 bd), .int .u64 (L2 bd), .int .u64 (L3 bd)] := hW0e ▸ (by repeat' (first | (with_reducible assumption) | (with_reducible refine Own.drawnN ?_ _) | (with_reducible refine Own.drawn ?_) | (with_reducible refine Own.made_at ?_; first | rfl | (simp; done) | omega | (simp; omega)) | (with_reducible refine Own.more ?_ _) | (with_reducible refine Own.apart ?_ ?_ _ _; rotate_left; first | omega | (simp; done) | (simp; omega)) | (refine Own.put ?_ _ _)))
  have hW0 : Below w.heap.size w W0 := hW0e ▸ (by repeat' (first | (with_reducible exact Below.refl _ _) | (with_reducible assumption) | (with_reducible refine below_drewN ?_ _) | (with_reducible refine Below.drew ?_) | (with_reducible refine Below.alloc ?_ ?_ _) | (with_reducible refine Below.setCell ?_ ?_ _) | (with_reducible refine then_ ?_ (by with_reducible assumption) ?_) | (with_reducible exact Nat.le_refl _) | (with_reducible exact Nat.le_succ _) | (with_reducible exact Nat.le_succ_of_le (by with_reducible assumption)) | omega | (simp; done) | (simp; omega) | (exact Nat.le_succ _) | (exact Nat.le_succ_of_le (by with_reducible assumption))))
  clear hW0e
  have zown := ow3.in_
  go_upto_region 1 with fail
  refine region_memo_f (B := W0.heap.size) (L := .val (.agg #[.int .u64 (L0 an), .int .u64 (L1 an), .int .u64 (L2 an), .int .u64 (L3 an), .int .u64 (L0 ad), .int .u64 (L1 ad), .int .u64 (L2 ad), .int .u64 (L3 ad)]) :: .val (.agg #[.int .u64 (L0 an), .int .u64 (L1 an), .int .u64 (L2 an), .int .u64 (L3 an), .int .u64 (L0 ad), .int .u64 (L1 ad), .int .u64 (L2 ad), .int .u64 (L3 ad)]) :: .blk 34 8 :: .put 5 34 #[.int .u64 (L0 an), .int .u64 (L1 an), .int .u64 (L2 an), .int .u64 (L3 an), .int .u64 (L0 ad), .int .u64 (L1 ad), .int .u64 (L2 ad), .int .u64 (L3 ad)] :: []) (by kernel_rfl) (Nat.le_refl _) ((by exact trivial))
    ⟨fun a w R => ld_R (R.slot 2 rfl) (R.keep ow2 trivial) rfl rfl rfl rfl rfl rfl rfl rfl, fun a w R => cl_t (enter_at Tryd.func14) (R.val 0) (plain_all _), fun a w R => al_Q, fun a w R => sb_Q (R.dep 2) (R.val 1), trivial⟩ (fun act_ W1 I => ?_)
  obtain ⟨gb5, ew5, lw5, ow5⟩ := I.put 3 rfl rfl
  rw [I.act [(7, .agg #[.int .u64 (L0 an), .int .u64 (L1 an), .int .u64 (L2 an), .int .u64 (L3 an), .int .u64 (L0 ad), .int .u64 (L1 ad), .int .u64 (L2 ad), .int .u64 (L3 ad)]), (8, .agg #[.int .u64 (L0 an), .int .u64 (L1 an), .int .u64 (L2 an), .int .u64 (L3 an), .int .u64 (L0 ad), .int .u64 (L1 ad), .int .u64 (L2 ad), .int .u64 (L3 ad)]), (5, .pointer (some ⟨gb5, 0, none⟩))]
    ⟨I.val 0, I.val 1, ew5, trivial⟩ rfl]
  change W0.heap.size ≤ gb5 at lw5
  have sW1 : W0.heap.size ≤ W1.heap.size := I.below.size
  replace ow2 := I.keep ow2 trivial
  replace ow3 := I.keep ow3 trivial
  have hW1 : Below w.heap.size w W1 := then_ hW0 I.below hW0.size
  clear ew5
  clear I
  simp only [List.foldl_cons, List.foldl_nil, List.setIfInBounds_toArray, List.set_cons_zero, List.set_cons_succ]
  rcases Bool.eq_false_or_eq_true (decide (Rgt an ad)) with t1 | t1
  · have t1_ := Lib.hid t1
    clear t1
    go_upto_region 2 with fail
    refine region_memo_f (B := W1.heap.size) (L := .val (.agg #[.int .u64 (L0 an), .int .u64 (L1 an), .int .u64 (L2 an), .int .u64 (L3 an), .int .u64 (L0 ad), .int .u64 (L1 ad), .int .u64 (L2 ad), .int .u64 (L3 ad)]) :: .val (.bool true) :: .val (.bool false) :: []) (by kernel_rfl) (Nat.le_refl _) ((by exact trivial))
      ⟨fun a w R => ld_Q (R.slot 5 rfl) (R.keep ow5 trivial) rfl rfl rfl rfl rfl rfl rfl rfl, fun a w R => cl_t (enter_at Tryd.func15) (R.val 0) (rright_is han had t1_.out _), fun a w R => notb (R.val 1), trivial⟩ (fun act_ W2 I => ?_)
    rw [I.act [(9, .agg #[.int .u64 (L0 an), .int .u64 (L1 an), .int .u64 (L2 an), .int .u64 (L3 an), .int .u64 (L0 ad), .int .u64 (L1 ad), .int .u64 (L2 ad), .int .u64 (L3 ad)]), (10, .bool true), (11, .bool false)]
      ⟨I.val 0, I.val 1, I.val 2, trivial⟩ rfl]
    have sW2 : W1.heap.size ≤ W2.heap.size := I.below.size
    replace ow2 := I.keep ow2 trivial
    replace ow3 := I.keep ow3 trivial
    replace ow5 := I.keep ow5 trivial
    have hW2 : Below w.heap.size w W2 := then_ hW1 I.below hW1.size
    clear I
    simp only [List.foldl_cons, List.foldl_nil, List.setIfInBounds_toArray, List.set_cons_zero, List.set_cons_succ]
    go_upto_region 4 with fail
    refine region_memo (B := W2.heap.size) (L := .val (.agg #[.int .u64 (L0 an), .int .u64 (L1 an), .int .u64 (L2 an), .int .u64 (L3 an), .int .u64 (L0 ad), .int .u64 (L1 ad), .int .u64 (L2 ad), .int .u64 (L3 ad)]) :: .val (.bool true) :: .val (.bool false) :: .val (.bool false) :: .val (.agg #[.int .u64 (L0 an), .int .u64 (L1 an), .int .u64 (L2 an), .int .u64 (L3 an), .int .u64 (L0 ad), .int .u64 (L1 ad), .int .u64 (L2 ad), .int .u64 (L3 ad)]) :: .val (.int .i64 (sgnZ an)) :: .val (.agg #[.int .u64 (L0 an), .int .u64 (L1 an), .int .u64 (L2 an), .int .u64 (L3 an), .int .u64 (L0 ad), .int .u64 (L1 ad), .int .u64 (L2 ad), .int .u64 (L3 ad)]) :: .val (.int .i64 (sgnZ an)) :: .val (.bool false) :: .val (.bool false) :: .val (.bool false) :: .val (.agg #[.int .u64 (L0 an), .int .u64 (L1 an), .int .u64 (L2 an), .int .u64 (L3 an), .int .u64 (L0 ad), .int .u64 (L1 ad), .int .u64 (L2 ad), .int .u64 (L3 ad)]) :: .val (.agg #[.int .u64 (L0 f), .int .u64 (L1 f), .int .u64 (L2 f), .int .u64 (L3 f)]) :: .val (.agg #[.int .u64 (L0 an), .int .u64 (L1 an), .int .u64 (L2 an), .int .u64 (L3 an), .int .u64 (L0 ad), .int .u64 (L1 ad), .int .u64 (L2 ad), .int .u64 (L3 ad)]) :: .val (.agg #[.int .u64 (L0 f), .int .u64 (L1 f), .int .u64 (L2 f), .int .u64 (L3 f)]) :: .val (.bool false) :: .val (.bool false) :: .val (.bool false) :: .val (.agg #[.int .u64 (L0 an), .int .u64 (L1 an), .int .u64 (L2 an), .int .u64 (L3 an), .int .u64 (L0 ad), .int .u64 (L1 ad), .int .u64 (L2 ad), .int .u64 (L3 ad)]) :: .val (.string X) :: .val (.agg #[.int .u64 (L0 an), .int .u64 (L1 an), .int .u64 (L2 an), .int .u64 (L3 an), .int .u64 (L0 ad), .int .u64 (L1 ad), .int .u64 (L2 ad), .int .u64 (L3 ad)]) :: .val (.string X) :: .val (.bool false) :: .val (.bool false) :: []) (by kernel_rfl) (by kernel_rfl) (Nat.le_refl _) ((by exact trivial))
      ⟨fun a w R => ld_R (R.slot 2 rfl) (R.keep ow2.drawn trivial) rfl rfl rfl rfl rfl rfl rfl rfl, fun a w R => cl_t (enter_at Tryd.func10) (R.val 0) (Right_is han had t1_.out _), fun a w R => notb (R.val 1), fun a w R => mv (R.val 2), fun a w R => ld_R (R.slot 2 rfl) (R.keep ow2.drawn trivial) rfl rfl rfl rfl rfl rfl rfl rfl, fun a w R => cl_t (enter_at Tryd.func16) (R.val 4) (RSign_in han had (of_decide_eq_true t1_.out) _), fun a w R => ld_Q (R.slot 5 rfl) (R.keep ow5.drawn trivial) rfl rfl rfl rfl rfl rfl rfl rfl, fun a w R => cl_t (enter_at Tryd.func20) (R.val 6) (rsign_any han _), fun a w R => c_neq_tt (R.val 5) (R.val 7) (Tryd.underlying3) (by simp), fun a w R => pickn (R.val 3) (R.val 8), fun a w R => mv (R.val 9), fun a w R => ld_R (R.slot 2 rfl) (R.keep ow2.drawn trivial) rfl rfl rfl rfl rfl rfl rfl rfl, fun a w R => cl_t (enter_at Tryd.func17) (R.val 11) ((FP.out t1_.out) _), fun a w R => ld_Q (R.slot 5 rfl) (R.keep ow5.drawn trivial) rfl rfl rfl rfl rfl rfl rfl rfl, fun a w R => cl_t (enter_at Tryd.func21) (R.val 13) ((FR.out t1_.out) _), fun a w R => (e_neq_W (R.val 12) (R.val 14) (fun w => (eq_fit (a := f) (b := f) (hf.out t1_.out) (hf.out t1_.out) w).trans (by rw [EF.out]))), fun a w R => pickn (R.val 10) (R.val 15), fun a w R => mv (R.val 16), fun a w R => ld_R (R.slot 2 rfl) (R.keep ow2.drawn trivial) rfl rfl rfl rfl rfl rfl rfl rfl, fun a w R => cl_t (enter_at Tryd.func18) (R.val 18) ((TP.out t1_.out) _ ((hp.keep hW2.drew).keep R.below)), fun a w R => ld_Q (R.slot 5 rfl) (R.keep ow5.drawn trivial) rfl rfl rfl rfl rfl rfl rfl rfl, fun a w R => cl_t (enter_at Tryd.func22) (R.val 20) (TR.out _), fun a w R => neqs_tt (R.val 19) (R.val 21) (Tryd.underlying9) rfl, fun a w R => pickn (R.val 17) (R.val 22), trivial⟩ (fun act_ W3 I => ?_)
    rw [I.act [(40, .agg #[.int .u64 (L0 an), .int .u64 (L1 an), .int .u64 (L2 an), .int .u64 (L3 an), .int .u64 (L0 ad), .int .u64 (L1 ad), .int .u64 (L2 ad), .int .u64 (L3 ad)]), (41, .bool true), (42, .bool false), (43, .bool false), (44, .agg #[.int .u64 (L0 an), .int .u64 (L1 an), .int .u64 (L2 an), .int .u64 (L3 an), .int .u64 (L0 ad), .int .u64 (L1 ad), .int .u64 (L2 ad), .int .u64 (L3 ad)]), (45, .int .i64 (sgnZ an)), (46, .agg #[.int .u64 (L0 an), .int .u64 (L1 an), .int .u64 (L2 an), .int .u64 (L3 an), .int .u64 (L0 ad), .int .u64 (L1 ad), .int .u64 (L2 ad), .int .u64 (L3 ad)]), (47, .int .i64 (sgnZ an)), (48, .bool false), (49, .bool false), (50, .bool false), (51, .agg #[.int .u64 (L0 an), .int .u64 (L1 an), .int .u64 (L2 an), .int .u64 (L3 an), .int .u64 (L0 ad), .int .u64 (L1 ad), .int .u64 (L2 ad), .int .u64 (L3 ad)]), (52, .agg #[.int .u64 (L0 f), .int .u64 (L1 f), .int .u64 (L2 f), .int .u64 (L3 f)]), (53, .agg #[.int .u64 (L0 an), .int .u64 (L1 an), .int .u64 (L2 an), .int .u64 (L3 an), .int .u64 (L0 ad), .int .u64 (L1 ad), .int .u64 (L2 ad), .int .u64 (L3 ad)]), (54, .agg #[.int .u64 (L0 f), .int .u64 (L1 f), .int .u64 (L2 f), .int .u64 (L3 f)]), (55, .bool false), (56, .bool false), (57, .bool false), (58, .agg #[.int .u64 (L0 an), .int .u64 (L1 an), .int .u64 (L2 an), .int .u64 (L3 an), .int .u64 (L0 ad), .int .u64 (L1 ad), .int .u64 (L2 ad), .int .u64 (L3 ad)]), (59, .string X), (60, .agg #[.int .u64 (L0 an), .int .u64 (L1 an), .int .u64 (L2 an), .int .u64 (L3 an), .int .u64 (L0 ad), .int .u64 (L1 ad), .int .u64 (L2 ad), .int .u64 (L3 ad)]), (61, .string X), (62, .bool false), (63, .bool false)]
      ⟨I.val 0, I.val 1, I.val 2, I.val 3, I.val 4, I.val 5, I.val 6, I.val 7, I.val 8, I.val 9, I.val 10, I.val 11, I.val 12, I.val 13, I.val 14, I.val 15, I.val 16, I.val 17, I.val 18, I.val 19, I.val 20, I.val 21, I.val 22, I.val 23, trivial⟩ rfl]
    have sW3 : W2.heap.size ≤ W3.heap.size := I.below.size
    replace ow2 := I.keep ow2.drawn trivial
    replace ow3 := I.keep ow3.drawn trivial
    replace ow5 := I.keep ow5.drawn trivial
    have hW3 : Below w.heap.size w W3 := then_ hW2.drew I.below hW2.size
    clear I
    simp only [List.foldl_cons, List.foldl_nil, List.setIfInBounds_toArray, List.set_cons_zero, List.set_cons_succ]
    go_upto_region 6 with fail
    refine region_memo_f (B := W3.heap.size) (L := .val (.int .i64 0) :: []) (by kernel_rfl) (Nat.le_refl _) ((by exact trivial))
      ⟨fun a w R => asc, trivial⟩ (fun act_ W4 I => ?_)
    rw [I.act [(6, .int .i64 0)]
      ⟨I.val 0, trivial⟩ rfl]
    have sW4 : W3.heap.size ≤ W4.heap.size := I.below.size
    replace ow2 := I.keep ow2 trivial
    replace ow3 := I.keep ow3 trivial
    replace ow5 := I.keep ow5 trivial
    have hW4 : Below w.heap.size w W4 := then_ hW3 I.below hW3.size
    clear I
    simp only [List.foldl_cons, List.foldl_nil, List.setIfInBounds_toArray, List.set_cons_zero, List.set_cons_succ]
    rcases Bool.eq_false_or_eq_true (decide (Rgt bn bd)) with t2 | t2
    · have t2_ := Lib.hid t2
      clear t2
      go_upto_region 7 with fail
      refine region_memo_f (B := W4.heap.size) (L := .val (.agg #[.int .u64 (L0 bn), .int .u64 (L1 bn), .int .u64 (L2 bn), .int .u64 (L3 bn), .int .u64 (L0 bd), .int .u64 (L1 bd), .int .u64 (L2 bd), .int .u64 (L3 bd)]) :: .val (.agg #[.int .u64 (L0 bn), .int .u64 (L1 bn), .int .u64 (L2 bn), .int .u64 (L3 bn), .int .u64 (L0 bd), .int .u64 (L1 bd), .int .u64 (L2 bd), .int .u64 (L3 bd)]) :: .val (.bool true) :: []) (by kernel_rfl) (Nat.le_refl _) ((by exact trivial))
        ⟨fun a w R => ld_R (R.slot 3 rfl) (R.keep ow3 trivial) rfl rfl rfl rfl rfl rfl rfl rfl, fun a w R => cl_t (enter_at Tryd.func14) (R.val 0) (plain_all _), fun a w R => cl_t (enter_at Tryd.func15) (R.val 1) (rright_is hbn hbd t2_.out _), trivial⟩ (fun act_ W5 I => ?_)
      rw [I.act [(64, .agg #[.int .u64 (L0 bn), .int .u64 (L1 bn), .int .u64 (L2 bn), .int .u64 (L3 bn), .int .u64 (L0 bd), .int .u64 (L1 bd), .int .u64 (L2 bd), .int .u64 (L3 bd)]), (65, .agg #[.int .u64 (L0 bn), .int .u64 (L1 bn), .int .u64 (L2 bn), .int .u64 (L3 bn), .int .u64 (L0 bd), .int .u64 (L1 bd), .int .u64 (L2 bd), .int .u64 (L3 bd)]), (66, .bool true)]
        ⟨I.val 0, I.val 1, I.val 2, trivial⟩ rfl]
      have sW5 : W4.heap.size ≤ W5.heap.size := I.below.size
      replace ow2 := I.keep ow2 trivial
      replace ow3 := I.keep ow3 trivial
      replace ow5 := I.keep ow5 trivial
      have hW5 : Below w.heap.size w W5 := then_ hW4 I.below hW4.size
      clear I
      simp only [List.foldl_cons, List.foldl_nil, List.setIfInBounds_toArray, List.set_cons_zero, List.set_cons_succ]
      go_upto_region 8 with fail
      refine region_memo (B := W5.heap.size) (L := .val (.agg #[.int .u64 (L0 an), .int .u64 (L1 an), .int .u64 (L2 an), .int .u64 (L3 an), .int .u64 (L0 ad), .int .u64 (L1 ad), .int .u64 (L2 ad), .int .u64 (L3 ad)]) :: .val (.agg #[.int .u64 (L0 bn), .int .u64 (L1 bn), .int .u64 (L2 bn), .int .u64 (L3 bn), .int .u64 (L0 bd), .int .u64 (L1 bd), .int .u64 (L2 bd), .int .u64 (L3 bd)]) :: .val (.agg #[.int .u64 (L0 bn), .int .u64 (L1 bn), .int .u64 (L2 bn), .int .u64 (L3 bn), .int .u64 (L0 bd), .int .u64 (L1 bd), .int .u64 (L2 bd), .int .u64 (L3 bd)]) :: .val (.int .i64 cc) :: .val (.int .i64 cc) :: []) (by kernel_rfl) (by kernel_rfl) (Nat.le_refl _) ((by exact trivial))
        ⟨fun a w R => ld_Q (R.slot 5 rfl) (R.keep ow5.drawn trivial) rfl rfl rfl rfl rfl rfl rfl rfl, fun a w R => ld_R (R.slot 3 rfl) (R.keep ow3.drawn trivial) rfl rfl rfl rfl rfl rfl rfl rfl, fun a w R => cl_t (enter_at Tryd.func14) (R.val 1) (plain_all _), fun a w R => cl_tt (enter_at Tryd.func23) (R.val 0) (R.val 2) (RC.out _), fun a w R => asg (R.val 3), trivial⟩ (fun act_ W6 I => ?_)
      rw [I.act [(67, .agg #[.int .u64 (L0 an), .int .u64 (L1 an), .int .u64 (L2 an), .int .u64 (L3 an), .int .u64 (L0 ad), .int .u64 (L1 ad), .int .u64 (L2 ad), .int .u64 (L3 ad)]), (68, .agg #[.int .u64 (L0 bn), .int .u64 (L1 bn), .int .u64 (L2 bn), .int .u64 (L3 bn), .int .u64 (L0 bd), .int .u64 (L1 bd), .int .u64 (L2 bd), .int .u64 (L3 bd)]), (69, .agg #[.int .u64 (L0 bn), .int .u64 (L1 bn), .int .u64 (L2 bn), .int .u64 (L3 bn), .int .u64 (L0 bd), .int .u64 (L1 bd), .int .u64 (L2 bd), .int .u64 (L3 bd)]), (70, .int .i64 cc), (6, .int .i64 cc)]
        ⟨I.val 0, I.val 1, I.val 2, I.val 3, I.val 4, trivial⟩ rfl]
      have sW6 : W5.heap.size ≤ W6.heap.size := I.below.size
      replace ow2 := I.keep ow2.drawn trivial
      replace ow3 := I.keep ow3.drawn trivial
      replace ow5 := I.keep ow5.drawn trivial
      have hW6 : Below w.heap.size w W6 := then_ hW5.drew I.below hW5.size
      clear I
      simp only [List.foldl_cons, List.foldl_nil, List.setIfInBounds_toArray, List.set_cons_zero, List.set_cons_succ]
      go_upto_region 9 with fail
      refine region_memo_f (B := W6.heap.size) (L := .val (.bool true) :: .val (.bool true) :: .val (.agg #[.int .u64 (L0 an), .int .u64 (L1 an), .int .u64 (L2 an), .int .u64 (L3 an), .int .u64 (L0 ad), .int .u64 (L1 ad), .int .u64 (L2 ad), .int .u64 (L3 ad)]) :: .val (.agg #[.int .u64 (L0 bn), .int .u64 (L1 bn), .int .u64 (L2 bn), .int .u64 (L3 bn), .int .u64 (L0 bd), .int .u64 (L1 bd), .int .u64 (L2 bd), .int .u64 (L3 bd)]) :: .val (.int .i64 cc) :: .val (.int .i64 cc) :: .val (.bool true) :: .val (.bool true) :: .val (.bool true) :: []) (by kernel_rfl) (Nat.le_refl _) ((by exact trivial))
        ⟨fun a w R => cl_0 (enter_at Tryd.func9)  (awake4 _ ((hp.keep hW6).keep R.below)), fun a w R => mv (R.val 0), fun a w R => ld_R (R.slot 2 rfl) (R.keep ow2 trivial) rfl rfl rfl rfl rfl rfl rfl rfl, fun a w R => ld_R (R.slot 3 rfl) (R.keep ow3 trivial) rfl rfl rfl rfl rfl rfl rfl rfl, fun a w R => cl_tt (enter_at Tryd.func19) (R.val 2) (R.val 3) ((C2.out t1_.out t2_.out) _), fun a w R => mv (R.slot 6 rfl), fun a w R => c_eql_tt (R.val 4) (R.val 5) (Tryd.underlying3) (by simp), fun a w R => pickt (R.val 1) (R.val 6), fun a w R => asg (R.val 7), trivial⟩ (fun act_ W7 I => ?_)
      rw [I.act [(71, .bool true), (72, .bool true), (73, .agg #[.int .u64 (L0 an), .int .u64 (L1 an), .int .u64 (L2 an), .int .u64 (L3 an), .int .u64 (L0 ad), .int .u64 (L1 ad), .int .u64 (L2 ad), .int .u64 (L3 ad)]), (74, .agg #[.int .u64 (L0 bn), .int .u64 (L1 bn), .int .u64 (L2 bn), .int .u64 (L3 bn), .int .u64 (L0 bd), .int .u64 (L1 bd), .int .u64 (L2 bd), .int .u64 (L3 bd)]), (75, .int .i64 cc), (76, .int .i64 cc), (77, .bool true), (78, .bool true), (4, .bool true)]
        ⟨I.val 0, I.val 1, I.val 2, I.val 3, I.val 4, I.val 5, I.val 6, I.val 7, I.val 8, trivial⟩ rfl]
      have sW7 : W6.heap.size ≤ W7.heap.size := I.below.size
      replace ow2 := I.keep ow2 trivial
      replace ow3 := I.keep ow3 trivial
      replace ow5 := I.keep ow5 trivial
      have hW7 : Below w.heap.size w W7 := then_ hW6 I.below hW6.size
      clear I
      simp only [List.foldl_cons, List.foldl_nil, List.setIfInBounds_toArray, List.set_cons_zero, List.set_cons_succ]
      clear ow2 ow3 ow5
      go_wp2
      try simp only [setCell_drawn]
      refine bodyPost_ret (by first | (simp [results, Tryd.results6, go_sem]; done) | (simp [results, Tryd.results6, go_sem]; rfl)) rfl ⟨?_, hW7⟩
      rfl
    · have t2_ := Lib.hid t2
      clear t2
      go_upto_region 7 with fail
      refine region_memo_f (B := W4.heap.size) (L := .val (.agg #[.int .u64 (L0 bn), .int .u64 (L1 bn), .int .u64 (L2 bn), .int .u64 (L3 bn), .int .u64 (L0 bd), .int .u64 (L1 bd), .int .u64 (L2 bd), .int .u64 (L3 bd)]) :: .val (.agg #[.int .u64 (L0 bn), .int .u64 (L1 bn), .int .u64 (L2 bn), .int .u64 (L3 bn), .int .u64 (L0 bd), .int .u64 (L1 bd), .int .u64 (L2 bd), .int .u64 (L3 bd)]) :: .val (.bool false) :: []) (by kernel_rfl) (Nat.le_refl _) ((by exact trivial))
        ⟨fun a w R => ld_R (R.slot 3 rfl) (R.keep ow3 trivial) rfl rfl rfl rfl rfl rfl rfl rfl, fun a w R => cl_t (enter_at Tryd.func14) (R.val 0) (plain_all _), fun a w R => cl_t (enter_at Tryd.func15) (R.val 1) (rright_is hbn hbd t2_.out _), trivial⟩ (fun act_ W5 I => ?_)
      rw [I.act [(64, .agg #[.int .u64 (L0 bn), .int .u64 (L1 bn), .int .u64 (L2 bn), .int .u64 (L3 bn), .int .u64 (L0 bd), .int .u64 (L1 bd), .int .u64 (L2 bd), .int .u64 (L3 bd)]), (65, .agg #[.int .u64 (L0 bn), .int .u64 (L1 bn), .int .u64 (L2 bn), .int .u64 (L3 bn), .int .u64 (L0 bd), .int .u64 (L1 bd), .int .u64 (L2 bd), .int .u64 (L3 bd)]), (66, .bool false)]
        ⟨I.val 0, I.val 1, I.val 2, trivial⟩ rfl]
      have sW5 : W4.heap.size ≤ W5.heap.size := I.below.size
      replace ow2 := I.keep ow2 trivial
      replace ow3 := I.keep ow3 trivial
      replace ow5 := I.keep ow5 trivial
      have hW5 : Below w.heap.size w W5 := then_ hW4 I.below hW4.size
      clear I
      simp only [List.foldl_cons, List.foldl_nil, List.setIfInBounds_toArray, List.set_cons_zero, List.set_cons_succ]
      go_upto_region 9 with fail
      refine region_memo_f (B := W5.heap.size) (L := .val (.bool true) :: .val (.bool true) :: .val (.agg #[.int .u64 (L0 an), .int .u64 (L1 an), .int .u64 (L2 an), .int .u64 (L3 an), .int .u64 (L0 ad), .int .u64 (L1 ad), .int .u64 (L2 ad), .int .u64 (L3 ad)]) :: .val (.agg #[.int .u64 (L0 bn), .int .u64 (L1 bn), .int .u64 (L2 bn), .int .u64 (L3 bn), .int .u64 (L0 bd), .int .u64 (L1 bd), .int .u64 (L2 bd), .int .u64 (L3 bd)]) :: .val (.int .i64 0) :: .val (.int .i64 0) :: .val (.bool true) :: .val (.bool true) :: .val (.bool true) :: []) (by kernel_rfl) (Nat.le_refl _) ((by exact trivial))
        ⟨fun a w R => cl_0 (enter_at Tryd.func9)  (awake4 _ ((hp.keep hW5).keep R.below)), fun a w R => mv (R.val 0), fun a w R => ld_R (R.slot 2 rfl) (R.keep ow2 trivial) rfl rfl rfl rfl rfl rfl rfl rfl, fun a w R => ld_R (R.slot 3 rfl) (R.keep ow3 trivial) rfl rfl rfl rfl rfl rfl rfl rfl, fun a w R => cl_tt (enter_at Tryd.func19) (R.val 2) (R.val 3) ((C1.out t2_.out) _), fun a w R => mv (R.slot 6 rfl), fun a w R => c_eql_tt (R.val 4) (R.val 5) (Tryd.underlying3) (by decide), fun a w R => pickt (R.val 1) (R.val 6), fun a w R => asg (R.val 7), trivial⟩ (fun act_ W6 I => ?_)
      rw [I.act [(71, .bool true), (72, .bool true), (73, .agg #[.int .u64 (L0 an), .int .u64 (L1 an), .int .u64 (L2 an), .int .u64 (L3 an), .int .u64 (L0 ad), .int .u64 (L1 ad), .int .u64 (L2 ad), .int .u64 (L3 ad)]), (74, .agg #[.int .u64 (L0 bn), .int .u64 (L1 bn), .int .u64 (L2 bn), .int .u64 (L3 bn), .int .u64 (L0 bd), .int .u64 (L1 bd), .int .u64 (L2 bd), .int .u64 (L3 bd)]), (75, .int .i64 0), (76, .int .i64 0), (77, .bool true), (78, .bool true), (4, .bool true)]
        ⟨I.val 0, I.val 1, I.val 2, I.val 3, I.val 4, I.val 5, I.val 6, I.val 7, I.val 8, trivial⟩ rfl]
      have sW6 : W5.heap.size ≤ W6.heap.size := I.below.size
      replace ow2 := I.keep ow2 trivial
      replace ow3 := I.keep ow3 trivial
      replace ow5 := I.keep ow5 trivial
      have hW6 : Below w.heap.size w W6 := then_ hW5 I.below hW5.size
      clear I
      simp only [List.foldl_cons, List.foldl_nil, List.setIfInBounds_toArray, List.set_cons_zero, List.set_cons_succ]
      clear ow2 ow3 ow5
      go_wp2
      try simp only [setCell_drawn]
      refine bodyPost_ret (by first | (simp [results, Tryd.results6, go_sem]; done) | (simp [results, Tryd.results6, go_sem]; rfl)) rfl ⟨?_, hW6⟩
      rfl
  · have t1_ := Lib.hid t1
    clear t1
    go_upto_region 2 with fail
    refine region_memo_f (B := W1.heap.size) (L := .val (.agg #[.int .u64 (L0 an), .int .u64 (L1 an), .int .u64 (L2 an), .int .u64 (L3 an), .int .u64 (L0 ad), .int .u64 (L1 ad), .int .u64 (L2 ad), .int .u64 (L3 ad)]) :: .val (.bool false) :: .val (.bool true) :: []) (by kernel_rfl) (Nat.le_refl _) ((by exact trivial))
      ⟨fun a w R => ld_Q (R.slot 5 rfl) (R.keep ow5 trivial) rfl rfl rfl rfl rfl rfl rfl rfl, fun a w R => cl_t (enter_at Tryd.func15) (R.val 0) (rright_is han had t1_.out _), fun a w R => notb (R.val 1), trivial⟩ (fun act_ W2 I => ?_)
    rw [I.act [(9, .agg #[.int .u64 (L0 an), .int .u64 (L1 an), .int .u64 (L2 an), .int .u64 (L3 an), .int .u64 (L0 ad), .int .u64 (L1 ad), .int .u64 (L2 ad), .int .u64 (L3 ad)]), (10, .bool false), (11, .bool true)]
      ⟨I.val 0, I.val 1, I.val 2, trivial⟩ rfl]
    have sW2 : W1.heap.size ≤ W2.heap.size := I.below.size
    replace ow2 := I.keep ow2 trivial
    replace ow3 := I.keep ow3 trivial
    replace ow5 := I.keep ow5 trivial
    have hW2 : Below w.heap.size w W2 := then_ hW1 I.below hW1.size
    clear I
    simp only [List.foldl_cons, List.foldl_nil, List.setIfInBounds_toArray, List.set_cons_zero, List.set_cons_succ]
    go_upto_region 3 with fail
    refine region_memo_f (B := W2.heap.size) (L := .val (.bool true) :: .val (.bool true) :: .val (.agg #[.int .u64 (L0 an), .int .u64 (L1 an), .int .u64 (L2 an), .int .u64 (L3 an), .int .u64 (L0 ad), .int .u64 (L1 ad), .int .u64 (L2 ad), .int .u64 (L3 ad)]) :: .val (.bool false) :: .val (.bool true) :: .val (.bool true) :: .val (.bool true) :: .val (.agg #[.int .u64 (L0 an), .int .u64 (L1 an), .int .u64 (L2 an), .int .u64 (L3 an), .int .u64 (L0 ad), .int .u64 (L1 ad), .int .u64 (L2 ad), .int .u64 (L3 ad)]) :: .val (.int .i64 0) :: .val (.bool true) :: .val (.bool true) :: .val (.bool true) :: .val (.agg #[.int .u64 (L0 an), .int .u64 (L1 an), .int .u64 (L2 an), .int .u64 (L3 an), .int .u64 (L0 ad), .int .u64 (L1 ad), .int .u64 (L2 ad), .int .u64 (L3 ad)]) :: .val (.agg #[.int .u64 0, .int .u64 0, .int .u64 0, .int .u64 0]) :: .val (.agg #[.int .u64 0, .int .u64 0, .int .u64 0, .int .u64 0]) :: .val (.bool true) :: .val (.bool true) :: .val (.bool true) :: .val (.agg #[.int .u64 (L0 an), .int .u64 (L1 an), .int .u64 (L2 an), .int .u64 (L3 an), .int .u64 (L0 ad), .int .u64 (L1 ad), .int .u64 (L2 ad), .int .u64 (L3 ad)]) :: .val (.string ⟨#[]⟩) :: .val (.bool true) :: .val (.bool true) :: .val (.bool true) :: .val (.agg #[.int .u64 (L0 an), .int .u64 (L1 an), .int .u64 (L2 an), .int .u64 (L3 an), .int .u64 (L0 ad), .int .u64 (L1 ad), .int .u64 (L2 ad), .int .u64 (L3 ad)]) :: .val (.agg #[.int .u64 (L0 bn), .int .u64 (L1 bn), .int .u64 (L2 bn), .int .u64 (L3 bn), .int .u64 (L0 bd), .int .u64 (L1 bd), .int .u64 (L2 bd), .int .u64 (L3 bd)]) :: .val (.int .i64 0) :: .val (.bool true) :: .val (.bool true) :: .val (.bool true) :: []) (by kernel_rfl) (Nat.le_refl _) ((by exact trivial))
      ⟨fun a w R => cl_0 (enter_at Tryd.func9)  (awake4 _ ((hp.keep hW2).keep R.below)), fun a w R => mv (R.val 0), fun a w R => ld_R (R.slot 2 rfl) (R.keep ow2 trivial) rfl rfl rfl rfl rfl rfl rfl rfl, fun a w R => cl_t (enter_at Tryd.func10) (R.val 2) (Right_is han had t1_.out _), fun a w R => notb (R.val 3), fun a w R => pickt (R.val 1) (R.val 4), fun a w R => mv (R.val 5), fun a w R => ld_R (R.slot 2 rfl) (R.keep ow2 trivial) rfl rfl rfl rfl rfl rfl rfl rfl, fun a w R => cl_t (enter_at Tryd.func16) (R.val 7) (RSign_no han had t1_.out _), fun a w R => c_eql_tk (R.val 8) (Tryd.underlying3) (by decide), fun a w R => pickt (R.val 6) (R.val 9), fun a w R => mv (R.val 10), fun a w R => ld_R (R.slot 2 rfl) (R.keep ow2 trivial) rfl rfl rfl rfl rfl rfl rfl rfl, fun a w R => cl_t (enter_at Tryd.func17) (R.val 12) (RFloor_no han had t1_.out _), fun a w R => bd0_W, fun a w R => (e_eql_W (R.val 13) (R.val 14) (fun w => (eq_fit (a := 0) (b := 0) ⟨by decide, by decide⟩ ⟨by decide, by decide⟩ w).trans (by rw [E0.out]))), fun a w R => pickt (R.val 11) (R.val 15), fun a w R => mv (R.val 16), fun a w R => ld_R (R.slot 2 rfl) (R.keep ow2 trivial) rfl rfl rfl rfl rfl rfl rfl rfl, fun a w R => cl_t (enter_at Tryd.func18) (R.val 18) (RText_no han had t1_.out _), fun a w R => eqs (R.val 19) (Tryd.underlying9) rfl, fun a w R => pickt (R.val 17) (R.val 20), fun a w R => mv (R.val 21), fun a w R => ld_R (R.slot 2 rfl) (R.keep ow2 trivial) rfl rfl rfl rfl rfl rfl rfl rfl, fun a w R => ld_R (R.slot 3 rfl) (R.keep ow3 trivial) rfl rfl rfl rfl rfl rfl rfl rfl, fun a w R => cl_tt (enter_at Tryd.func19) (R.val 23) (R.val 24) ((C0.out t1_.out) _), fun a w R => c_eql_tk (R.val 25) (Tryd.underlying3) (by decide), fun a w R => pickt (R.val 22) (R.val 26), fun a w R => asg (R.val 27), trivial⟩ (fun act_ W3 I => ?_)
    rw [I.act [(12, .bool true), (13, .bool true), (14, .agg #[.int .u64 (L0 an), .int .u64 (L1 an), .int .u64 (L2 an), .int .u64 (L3 an), .int .u64 (L0 ad), .int .u64 (L1 ad), .int .u64 (L2 ad), .int .u64 (L3 ad)]), (15, .bool false), (16, .bool true), (17, .bool true), (18, .bool true), (19, .agg #[.int .u64 (L0 an), .int .u64 (L1 an), .int .u64 (L2 an), .int .u64 (L3 an), .int .u64 (L0 ad), .int .u64 (L1 ad), .int .u64 (L2 ad), .int .u64 (L3 ad)]), (20, .int .i64 0), (21, .bool true), (22, .bool true), (23, .bool true), (24, .agg #[.int .u64 (L0 an), .int .u64 (L1 an), .int .u64 (L2 an), .int .u64 (L3 an), .int .u64 (L0 ad), .int .u64 (L1 ad), .int .u64 (L2 ad), .int .u64 (L3 ad)]), (25, .agg #[.int .u64 0, .int .u64 0, .int .u64 0, .int .u64 0]), (26, .agg #[.int .u64 0, .int .u64 0, .int .u64 0, .int .u64 0]), (27, .bool true), (28, .bool true), (29, .bool true), (30, .agg #[.int .u64 (L0 an), .int .u64 (L1 an), .int .u64 (L2 an), .int .u64 (L3 an), .int .u64 (L0 ad), .int .u64 (L1 ad), .int .u64 (L2 ad), .int .u64 (L3 ad)]), (31, .string ⟨#[]⟩), (32, .bool true), (33, .bool true), (34, .bool true), (35, .agg #[.int .u64 (L0 an), .int .u64 (L1 an), .int .u64 (L2 an), .int .u64 (L3 an), .int .u64 (L0 ad), .int .u64 (L1 ad), .int .u64 (L2 ad), .int .u64 (L3 ad)]), (36, .agg #[.int .u64 (L0 bn), .int .u64 (L1 bn), .int .u64 (L2 bn), .int .u64 (L3 bn), .int .u64 (L0 bd), .int .u64 (L1 bd), .int .u64 (L2 bd), .int .u64 (L3 bd)]), (37, .int .i64 0), (38, .bool true), (39, .bool true), (4, .bool true)]
      ⟨I.val 0, I.val 1, I.val 2, I.val 3, I.val 4, I.val 5, I.val 6, I.val 7, I.val 8, I.val 9, I.val 10, I.val 11, I.val 12, I.val 13, I.val 14, I.val 15, I.val 16, I.val 17, I.val 18, I.val 19, I.val 20, I.val 21, I.val 22, I.val 23, I.val 24, I.val 25, I.val 26, I.val 27, I.val 28, trivial⟩ rfl]
    have sW3 : W2.heap.size ≤ W3.heap.size := I.below.size
    replace ow2 := I.keep ow2 trivial
    replace ow3 := I.keep ow3 trivial
    replace ow5 := I.keep ow5 trivial
    have hW3 : Below w.heap.size w W3 := then_ hW2 I.below hW2.size
    clear I
    simp only [List.foldl_cons, List.foldl_nil, List.setIfInBounds_toArray, List.set_cons_zero, List.set_cons_succ]
    clear ow2 ow3 ow5
    go_wp2
    try simp only [setCell_drawn]
    refine bodyPost_ret (by first | (simp [results, Tryd.results6, go_sem]; done) | (simp [results, Tryd.results6, go_sem]; rfl)) rfl ⟨?_, hW3⟩
    rfl

set_option maxRecDepth 100000 in
theorem lifted (os : Os) (started : os.Started) (H : Type) (enc : TypeId × Value → H) :
    ReturnsInHanded {} Tryd.checked os 6 .any (fun w args => (Rows.ratioAsksSpec.pre enc Tryd.prog Tryd.f6 [] false w args ∧ laidMetH Tryd.prog lay3 w) ∧ sizedMet enc Tryd.prog Tryd.f6 (OpenSpec.ofChange Rows.ratioAsksSpec) false w args) (Rows.ratioAsksSpec.post enc Tryd.prog Tryd.f6 false true false false) := by
  refine returnsInHanded_of_change_and (C := Tryd.checked) (X := fun w _ => laidMetH Tryd.prog lay3 w) (fun _ _ _ hh h => h.of_heap hh) own started (by kernel_rfl) Tryd.func6
    (ChangeSpec.witness_shaped (enc := enc) (C := Tryd.checked) (os := os) (X := fun w _ => laidMetH Tryd.prog lay3 w) false (World.doorLaid Tryd.prog 400 os) #[.agg #[.int .u64 0, .int .u64 0, .int .u64 0, .int .u64 0, .int .u64 0, .int .u64 0, .int .u64 0, .int .u64 0], .agg #[.int .u64 0, .int .u64 0, .int .u64 0, .int .u64 0, .int .u64 0, .int .u64 0, .int .u64 0, .int .u64 0]] 8 rfl (World.shaped_of_RefB (by kernel_rfl) (by kernel_rfl)) (by kernel_rfl) (by kernel_rfl) (by kernel_rfl) (door_met os _)) ?_
  intro W base args ds gs before hval0 hW _ _ hL _
  have hval : ∀ (j : Nat) t v, Tryd.f6.params[j]? = some t → args[j]? = some v → Value.okWide Tryd.prog W .any base t v := hval0
  have hW' := hW
  obtain ⟨p, q, hA0, hV, rfl, hfz, hnd⟩ := hW
  have hA : DataW.TrodAll enc Tryd.prog W 0 (fun _ => true) true Tryd.f6.params.toList args.toList ds p := hA0
  rw [Tryd.params6] at hA hval
  obtain ⟨v0, vs0, d0, ds0, p0, q0, hargs, rfl, rfl, h0, r0⟩ := trodAll_cons hA
  obtain ⟨v1, vs1, d1, ds1, p1, q1, rfl, rfl, rfl, h1, r1⟩ := trodAll_cons r0
  obtain ⟨rfl, rfl, rfl⟩ := trodAll_nil r1
  obtain rfl : args = #[v0, v1] := by cases args; simp_all
  obtain ⟨rfl, rfl⟩ := trodVars_none hV
  have k0 := h0
  obtain ⟨an, ad, rfl, rfl, han, had⟩ := open_rat (hval 0 26 v0 rfl rfl) h0
  have k1 := h1
  obtain ⟨bn, bd, rfl, rfl, hbn, hbd⟩ := open_rat (hval 1 26 v1 rfl rfl) h1
  clear hA0 hval0
  refine (walk an ad bn bd W han had hbn hbd (pow_of hL)).mono fun e W' ⟨he, bel⟩ => ?_
  subst he
  exact ⟨_, rfl, _, _, _, [], _, [], hW', trodAll_mk1 (shut_bool Tryd.underlying4 _), (trodAll_cons_mk (Below.trod laidOut (by kernel_rfl) (of_decide_eq_true (by kernel_rfl)) k0 bel (fun x hx => by cases hx)) (trodAll_cons_mk (Below.trod laidOut (by kernel_rfl) (of_decide_eq_true (by kernel_rfl)) k1 bel (fun x hx => by cases hx)) trodAll_mk0)), rfl, bel.frame _, fun h => by cases h⟩

theorem over : Rows.RatioAsksSaid :=
  OpenClaim.holds_of_wide 6 Tryd.f6 rfl rfl rfl rfl rfl rfl rfl ⟨rfl, rfl, rfl, rfl, rfl⟩ rfl rfl rfl rfl rfl (by kernel_rfl) Tryd.func6 (by kernel_rfl)
    (of_decide_eq_true (by kernel_rfl)) (by unfold Func.isWrapper; first | (rw [if_pos (by decide +kernel)]; kernel_rfl) | (rw [if_neg (by decide +kernel)]; exact ⟨rfl, rfl⟩))
    (fun os started H enc _ => lifted os started H enc)

/-- THE STATEMENT -/
theorem proved : Rows.RatioAsksCardSaid :=
  Claim7.holds_tied_plain_at .later [] [.data, .data, .data] true (true, "6a980af68157d7e3f748b080f3544bf2541039e08d899a7652377030828213c3") false
    over (fun _ h => by cases h) (by kernel_rfl) (fun _ h => by cases h) ratioAsks_row_tie rfl ⟨rfl, rfl⟩ (by kernel_rfl) rfl
    (fun f fn hf hfn => by
      obtain rfl : f = 6 := Option.some.inj ((show Tryd.prog.funcNamed "croft/croftlaw04.RatioAsks" = some 6 by kernel_rfl).symm.trans hf) |>.symm
      obtain rfl : fn = Tryd.f6 := (Option.some.inj (Tryd.func6.symm.trans hfn)).symm
      exact ⟨by kernel_rfl, fun j t ht => by
        rw [Tryd.params6] at ht
        have hm : t ∈ [26, 26] := by simpa using Array.mem_of_getElem? ht
        have hall : ([26, 26].all fun u => !Tryd.prog.wantsStandIn u) = true := by kernel_rfl
        exact (show Tryd.prog.wantsStandIn t = false by simpa using List.all_eq_true.1 hall t hm)⟩)
    (by kernel_rfl)
#print axioms proved
end Go.Proofs.YtigcbgehnlilaaaDoor.ratioAsks
