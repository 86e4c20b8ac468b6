/- WideDivides: a is q b + r, with an r that is less than b, for any two numbers; the tables start as the program's text lays them. -/
import Derived.Test.YtfgamdhhdiogjaaDoorRows
import Derived.Test.YtfgamdhhdiogjaaDoorBase
import Derived.Test.YtfgamdhhdiogjaaDoorMemoY
import Derived.WalkKit
import Derived.ProofKit
import Derived.OpenShut
import Derived.ShutString
import Derived.ChangeOld
import Derived.Below
import Derived.SliceStrings
import Derived.Test.YtfgamdhhdiogjaaDoorLaid
import Derived.Test.YtfgamdhhdiogjaaDoorCards
import Derived.Test.YtfgamdhhdiogjaaDoorTie
import Derived.LaidMore
import Derived.Stop.Joined
import Derived.SevenTiedAt
namespace Go.Proofs.YtfgamdhhdiogjaaDoor.wideDivides
open Go.ChangeShapes Go.WideShapes Go.ChangeAt Go.RowKit
open Go.ChangeMaps (open_string shut_string)
set_option linter.unusedVariables false

theorem own : ownKnob Tryd.prog.godebug = none := by kernel_rfl
theorem laidOut : laidOutB Tryd.prog = true := by kernel_rfl

set_option maxHeartbeats 16000000 in
set_option maxRecDepth 20000 in
theorem walk (z0 : Int) (z1 : Int) (w : World) (f0 : Fit z0) (f1 : Fit z1) (hp : Pow10 w) :
    Calls Tryd.prog 4 #[.agg #[.int .u64 (L0 z0), .int .u64 (L1 z0), .int .u64 (L2 z0), .int .u64 (L3 z0)], .agg #[.int .u64 (L0 z1), .int .u64 (L1 z1), .int .u64 (L2 z1), .int .u64 (L3 z1)]] w fun e w' => e = .returned (.bool true) ∧ Below w.heap.size w w' := by
  obtain ⟨q, r, er, QU⟩ := div_all z0 z1 f0 f1
  have D1 := Lib.hid QU.1
  have fr : Fit r := by
    rcases QU.2 with ⟨_, _, h, _⟩ | ⟨_, _, _, h, _⟩ | ⟨h0, _, _, h, _⟩
    · rw [h]; exact fit0
    · rw [h]; exact fit0
    · rw [h]; exact tmod_fit f1 h0
  have fq : Fit q := by
    rcases QU.2 with ⟨_, h, _, _⟩ | ⟨_, _, h, _, _⟩ | ⟨_, hc, h, _, _⟩
    · rw [h]; exact fit0
    · rw [h]; exact fit0
    · rw [h]; exact hc
  go_enter Tryd.func4, Tryd.ntmps4
  go_upto_region 1 with fail
  go_name_world W0 hW0e
  have OA : Own W0 w.heap.size 24 #[.int .u64 (L0 z0), .int .u64 (L1 z0), .int .u64 (L2 z0), .int .u64 (L3 z0)] := hW0e ▸ (by repeat' (first | (with_reducible assumption) | (with_reducible refine Own.drawnN ?_ _) | (with_reducible refine Own.drawn ?_) | (with_reducible refine Own.made_at ?_; first | rfl | (simp; done) | omega | (simp; omega)) | (with_reducible refine Own.more ?_ _) | (with_reducible refine Own.apart ?_ ?_ _ _; rotate_left; first | omega | (simp; done) | (simp; omega)) | (refine Own.put ?_ _ _)))
  have OB : Own W0 (w.heap.size + 1) 24 #[.int .u64 (L0 z1), .int .u64 (L1 z1), .int .u64 (L2 z1), .int .u64 (L3 z1)] := hW0e ▸ (by repeat' (first | (with_reducible assumption) | (with_reducible refine Own.drawnN ?_ _) | (with_reducible refine Own.drawn ?_) | (with_reducible refine Own.made_at ?_; first | rfl | (simp; done) | omega | (simp; omega)) | (with_reducible refine Own.more ?_ _) | (with_reducible refine Own.apart ?_ ?_ _ _; rotate_left; first | omega | (simp; done) | (simp; omega)) | (refine Own.put ?_ _ _)))
  have hW0 : Below w.heap.size w W0 := hW0e ▸ (by repeat' (first | (with_reducible exact Below.refl _ _) | (with_reducible assumption) | (with_reducible refine below_drewN ?_ _) | (with_reducible refine Below.drew ?_) | (with_reducible refine Below.alloc ?_ ?_ _) | (with_reducible refine Below.setCell ?_ ?_ _) | (with_reducible refine then_ ?_ (by with_reducible assumption) ?_) | (with_reducible exact Nat.le_refl _) | (with_reducible exact Nat.le_succ _) | (with_reducible exact Nat.le_succ_of_le (by with_reducible assumption)) | omega | (simp; done) | (simp; omega) | (exact Nat.le_succ _) | (exact Nat.le_succ_of_le (by with_reducible assumption))))
  clear hW0e
  refine region_memo_f (B := W0.heap.size) (L := .val (.agg #[.int .u64 (L0 z0), .int .u64 (L1 z0), .int .u64 (L2 z0), .int .u64 (L3 z0)]) :: .val (.agg #[.int .u64 (L0 z1), .int .u64 (L1 z1), .int .u64 (L2 z1), .int .u64 (L3 z1)]) :: .val (.tuple #[(.agg #[.int .u64 (L0 q), .int .u64 (L1 q), .int .u64 (L2 q), .int .u64 (L3 q)]), (.agg #[.int .u64 (L0 r), .int .u64 (L1 r), .int .u64 (L2 r), .int .u64 (L3 r)]), (.int .i64 er)]) :: .val (.tuple #[(.agg #[.int .u64 (L0 q), .int .u64 (L1 q), .int .u64 (L2 q), .int .u64 (L3 q)]), (.agg #[.int .u64 (L0 r), .int .u64 (L1 r), .int .u64 (L2 r), .int .u64 (L3 r)]), (.int .i64 er)]) :: .val (.agg #[.int .u64 (L0 q), .int .u64 (L1 q), .int .u64 (L2 q), .int .u64 (L3 q)]) :: .val (.agg #[.int .u64 (L0 r), .int .u64 (L1 r), .int .u64 (L2 r), .int .u64 (L3 r)]) :: .val (.int .i64 er) :: .blk 24 4 :: .blk 24 4 :: .put 5 24 #[.int .u64 (L0 q), .int .u64 (L1 q), .int .u64 (L2 q), .int .u64 (L3 q)] :: .put 6 24 #[.int .u64 (L0 r), .int .u64 (L1 r), .int .u64 (L2 r), .int .u64 (L3 r)] :: .val (.int .i64 er) :: []) (by kernel_rfl) (Nat.le_refl _) ((by exact trivial))
    ⟨fun a w R => ld24 (R.slot 2 rfl) (R.keep OA (by repeat' (first | exact trivial | refine Off.v ?_ | refine Off.k ?_ | refine Off.b ?_ | refine Off.p ?_ | refine Off.s ?_ ?_ | omega))), fun a w R => ld24 (R.slot 3 rfl) (R.keep OB (by repeat' (first | exact trivial | refine Off.v ?_ | refine Off.k ?_ | refine Off.b ?_ | refine Off.p ?_ | refine Off.s ?_ ?_ | omega))), fun a w R => cl2 en_Div (R.val 0 rfl rfl rfl (by kernel_rfl)) (R.val 1 rfl rfl rfl (by kernel_rfl)) (D1.out _), fun a w R => mv (R.val 2 rfl rfl rfl (by kernel_rfl)), fun a w R => x30 (R.val 3 rfl rfl rfl (by kernel_rfl)), fun a w R => x31 (R.val 3 rfl rfl rfl (by kernel_rfl)), fun a w R => x32 (R.val 3 rfl rfl rfl (by kernel_rfl)), fun a w R => al24, fun a w R => al24, fun a w R => sb24 (R.dep 7 rfl (by kernel_rfl)) (R.val 4 rfl rfl rfl (by kernel_rfl)), fun a w R => sb24 (R.dep 8 rfl (by kernel_rfl)) (R.val 5 rfl rfl rfl (by kernel_rfl)), fun a w R => asg (R.val 6 rfl rfl rfl (by kernel_rfl)), trivial⟩ (fun a1 W1 I => ?_)
  obtain ⟨b5, e5, l5, o5⟩ := I.put 9 rfl rfl
  obtain ⟨b6, e6, l6, o6⟩ := I.put 10 rfl rfl
  have n5_6 := I.far 7 8 rfl rfl (by omega) rfl rfl rfl rfl e5 e6
  rw [I.act [(15, (.agg #[.int .u64 (L0 z0), .int .u64 (L1 z0), .int .u64 (L2 z0), .int .u64 (L3 z0)])), (16, (.agg #[.int .u64 (L0 z1), .int .u64 (L1 z1), .int .u64 (L2 z1), .int .u64 (L3 z1)])), (17, (.tuple #[(.agg #[.int .u64 (L0 q), .int .u64 (L1 q), .int .u64 (L2 q), .int .u64 (L3 q)]), (.agg #[.int .u64 (L0 r), .int .u64 (L1 r), .int .u64 (L2 r), .int .u64 (L3 r)]), (.int .i64 er)])), (14, (.tuple #[(.agg #[.int .u64 (L0 q), .int .u64 (L1 q), .int .u64 (L2 q), .int .u64 (L3 q)]), (.agg #[.int .u64 (L0 r), .int .u64 (L1 r), .int .u64 (L2 r), .int .u64 (L3 r)]), (.int .i64 er)])), (18, (.agg #[.int .u64 (L0 q), .int .u64 (L1 q), .int .u64 (L2 q), .int .u64 (L3 q)])), (19, (.agg #[.int .u64 (L0 r), .int .u64 (L1 r), .int .u64 (L2 r), .int .u64 (L3 r)])), (20, (.int .i64 er)), (5, .pointer (some ⟨b5, 0, none⟩)), (6, .pointer (some ⟨b6, 0, none⟩)), (7, (.int .i64 er))]
    ⟨I.val 0 rfl rfl rfl, I.val 1 rfl rfl rfl, I.val 2 rfl rfl rfl, I.val 3 rfl rfl rfl, I.val 4 rfl rfl rfl, I.val 5 rfl rfl rfl, I.val 6 rfl rfl rfl, e5, e6, I.val 11 rfl rfl rfl, trivial⟩ rfl]
  change W0.heap.size ≤ b5 at l5
  change W0.heap.size ≤ b6 at l6
  have sW1 : W0.heap.size ≤ W1.heap.size := I.below.size
  replace OA := I.keep OA (by repeat' (first | exact trivial | refine Off.v ?_ | refine Off.k ?_ | refine Off.b ?_ | refine Off.p ?_ | refine Off.s ?_ ?_ | omega))
  replace OB := I.keep OB (by repeat' (first | exact trivial | refine Off.v ?_ | refine Off.k ?_ | refine Off.b ?_ | refine Off.p ?_ | refine Off.s ?_ ?_ | omega))
  have hW1 : Below w.heap.size w W1 := then_ hW0 I.below hW0.size
  clear e5 e6
  clear I
  simp only [List.foldl_cons, List.foldl_nil, List.setIfInBounds_toArray, List.set_cons_zero, List.set_cons_succ]
  clear D1
  go_upto_region 2 with fail
  rcases QU.2 with ⟨hz, hq, hr, he⟩ | ⟨hz, hc, hq, hr, he⟩ | ⟨hz, hc, hq, hr, he⟩
  · subst hz hq hr he
    clear QU fr fq f0 f1
    refine region_memo_f (B := W1.heap.size) (L := .val (.agg #[.int .u64 (L0 0), .int .u64 (L1 0), .int .u64 (L2 0), .int .u64 (L3 0)]) :: .val (.agg #[.int .u64 0, .int .u64 0, .int .u64 0, .int .u64 0]) :: .val (.bool true) :: []) (by kernel_rfl) (Nat.le_refl _) ((by exact trivial))
      ⟨fun a w R => ld24 (R.slot 3 rfl) (R.keep OB (by repeat' (first | exact trivial | refine Off.v ?_ | refine Off.k ?_ | refine Off.b ?_ | refine Off.p ?_ | refine Off.s ?_ ?_ | omega))), fun a w R => bld0, fun a w R => eqw (R.val 0 rfl rfl rfl (by kernel_rfl)) (R.val 1 rfl rfl rfl (by kernel_rfl)) eq_z0, trivial⟩ (fun a1 W2 I => ?_)
    rw [I.act [(21, (.agg #[.int .u64 (L0 0), .int .u64 (L1 0), .int .u64 (L2 0), .int .u64 (L3 0)])), (22, (.agg #[.int .u64 0, .int .u64 0, .int .u64 0, .int .u64 0])), (23, (.bool true))]
      ⟨I.val 0 rfl rfl rfl, I.val 1 rfl rfl rfl, I.val 2 rfl rfl rfl, trivial⟩ rfl]
    have sW2 : W1.heap.size ≤ W2.heap.size := I.below.size
    replace OA := I.keep OA (by repeat' (first | exact trivial | refine Off.v ?_ | refine Off.k ?_ | refine Off.b ?_ | refine Off.p ?_ | refine Off.s ?_ ?_ | omega))
    replace OB := I.keep OB (by repeat' (first | exact trivial | refine Off.v ?_ | refine Off.k ?_ | refine Off.b ?_ | refine Off.p ?_ | refine Off.s ?_ ?_ | omega))
    replace o5 := I.keep o5 (by repeat' (first | exact trivial | refine Off.v ?_ | refine Off.k ?_ | refine Off.b ?_ | refine Off.p ?_ | refine Off.s ?_ ?_ | omega))
    replace o6 := I.keep o6 (by repeat' (first | exact trivial | refine Off.v ?_ | refine Off.k ?_ | refine Off.b ?_ | refine Off.p ?_ | refine Off.s ?_ ?_ | omega))
    have hW2 : Below w.heap.size w W2 := then_ hW1 I.below hW1.size
    clear I
    simp only [List.foldl_cons, List.foldl_nil, List.setIfInBounds_toArray, List.set_cons_zero, List.set_cons_succ]
    go_upto_region 3 with fail
    have HP : Pow10 W2 := hp.keep hW2
    refine region_memo_f (B := W2.heap.size) (L := .val (.bool true) :: .val (.bool true) :: .val (.int .i64 4) :: .val (.bool true) :: .val (.bool true) :: .val (.bool true) :: .val (.agg #[.int .u64 (L0 0), .int .u64 (L1 0), .int .u64 (L2 0), .int .u64 (L3 0)]) :: .val (.agg #[.int .u64 (L0 0), .int .u64 (L1 0), .int .u64 (L2 0), .int .u64 (L3 0)]) :: .val (.bool true) :: .val (.bool true) :: .val (.bool true) :: .val (.agg #[.int .u64 (L0 0), .int .u64 (L1 0), .int .u64 (L2 0), .int .u64 (L3 0)]) :: .val (.agg #[.int .u64 (L0 0), .int .u64 (L1 0), .int .u64 (L2 0), .int .u64 (L3 0)]) :: .val (.bool true) :: .val (.bool true) :: .val (.bool true) :: []) (by kernel_rfl) (Nat.le_refl _) ((by exact trivial))
      ⟨fun a w R => cl0 en_awake (awake_any _ (HP.keep R.below)), fun a w R => mv (R.val 0 rfl rfl rfl (by kernel_rfl)), fun a w R => mv (R.slot 7 rfl), fun a w R => eqk (R.val 2 rfl rfl rfl (by kernel_rfl)) (Tryd.underlying25) rfl, fun a w R => pickt (R.val 1 rfl rfl rfl (by kernel_rfl)) (R.val 3 rfl rfl rfl (by kernel_rfl)), fun a w R => mv (R.val 4 rfl rfl rfl (by kernel_rfl)), fun a w R => ld24 (R.slot 5 rfl) (R.keep o5 (by repeat' (first | exact trivial | refine Off.v ?_ | refine Off.k ?_ | refine Off.b ?_ | refine Off.p ?_ | refine Off.s ?_ ?_ | omega))), fun a w R => ld24 (R.slot 3 rfl) (R.keep OB (by repeat' (first | exact trivial | refine Off.v ?_ | refine Off.k ?_ | refine Off.b ?_ | refine Off.p ?_ | refine Off.s ?_ ?_ | omega))), fun a w R => eqw (R.val 6 rfl rfl rfl (by kernel_rfl)) (R.val 7 rfl rfl rfl (by kernel_rfl)) (eq_i 0), fun a w R => pickt (R.val 5 rfl rfl rfl (by kernel_rfl)) (R.val 8 rfl rfl rfl (by kernel_rfl)), fun a w R => mv (R.val 9 rfl rfl rfl (by kernel_rfl)), fun a w R => ld24 (R.slot 6 rfl) (R.keep o6 (by repeat' (first | exact trivial | refine Off.v ?_ | refine Off.k ?_ | refine Off.b ?_ | refine Off.p ?_ | refine Off.s ?_ ?_ | omega))), fun a w R => ld24 (R.slot 3 rfl) (R.keep OB (by repeat' (first | exact trivial | refine Off.v ?_ | refine Off.k ?_ | refine Off.b ?_ | refine Off.p ?_ | refine Off.s ?_ ?_ | omega))), fun a w R => eqw (R.val 11 rfl rfl rfl (by kernel_rfl)) (R.val 12 rfl rfl rfl (by kernel_rfl)) (eq_i 0), fun a w R => pickt (R.val 10 rfl rfl rfl (by kernel_rfl)) (R.val 13 rfl rfl rfl (by kernel_rfl)), fun a w R => asg (R.val 14 rfl rfl rfl (by kernel_rfl)), trivial⟩ (fun a1 W3 I => ?_)
    rw [I.act [(24, (.bool true)), (25, (.bool true)), (26, (.int .i64 4)), (27, (.bool true)), (28, (.bool true)), (29, (.bool true)), (30, (.agg #[.int .u64 (L0 0), .int .u64 (L1 0), .int .u64 (L2 0), .int .u64 (L3 0)])), (31, (.agg #[.int .u64 (L0 0), .int .u64 (L1 0), .int .u64 (L2 0), .int .u64 (L3 0)])), (32, (.bool true)), (33, (.bool true)), (34, (.bool true)), (35, (.agg #[.int .u64 (L0 0), .int .u64 (L1 0), .int .u64 (L2 0), .int .u64 (L3 0)])), (36, (.agg #[.int .u64 (L0 0), .int .u64 (L1 0), .int .u64 (L2 0), .int .u64 (L3 0)])), (37, (.bool true)), (38, (.bool true)), (4, (.bool true))]
      ⟨I.val 0 rfl rfl rfl, I.val 1 rfl rfl rfl, I.val 2 rfl rfl rfl, I.val 3 rfl rfl rfl, I.val 4 rfl rfl rfl, I.val 5 rfl rfl rfl, I.val 6 rfl rfl rfl, I.val 7 rfl rfl rfl, I.val 8 rfl rfl rfl, I.val 9 rfl rfl rfl, I.val 10 rfl rfl rfl, I.val 11 rfl rfl rfl, I.val 12 rfl rfl rfl, I.val 13 rfl rfl rfl, I.val 14 rfl rfl rfl, I.val 15 rfl rfl rfl, trivial⟩ rfl]
    have sW3 : W2.heap.size ≤ W3.heap.size := I.below.size
    replace OA := I.keep OA (by repeat' (first | exact trivial | refine Off.v ?_ | refine Off.k ?_ | refine Off.b ?_ | refine Off.p ?_ | refine Off.s ?_ ?_ | omega))
    replace OB := I.keep OB (by repeat' (first | exact trivial | refine Off.v ?_ | refine Off.k ?_ | refine Off.b ?_ | refine Off.p ?_ | refine Off.s ?_ ?_ | omega))
    replace o5 := I.keep o5 (by repeat' (first | exact trivial | refine Off.v ?_ | refine Off.k ?_ | refine Off.b ?_ | refine Off.p ?_ | refine Off.s ?_ ?_ | omega))
    replace o6 := I.keep o6 (by repeat' (first | exact trivial | refine Off.v ?_ | refine Off.k ?_ | refine Off.b ?_ | refine Off.p ?_ | refine Off.s ?_ ?_ | omega))
    have hW3 : Below w.heap.size w W3 := then_ hW2 I.below hW2.size
    clear I
    simp only [List.foldl_cons, List.foldl_nil, List.setIfInBounds_toArray, List.set_cons_zero, List.set_cons_succ]
    go_wp2
    go_ret
    exact ⟨rfl, hW3⟩
  · obtain ⟨hb, ha⟩ := quo_large f0 hz hc
    have EN := eq_no f1 hz
    have SA1 := fun w => sign_b z0 f0 w
    rw [show sgnZ z0 = -1 by unfold sgnZ; rw [if_pos ha]] at SA1
    have SA := Lib.hid SA1
    subst hq hr he
    clear QU fr fq f0 f1 hc SA1 ha hz
    refine region_memo_f (B := W1.heap.size) (L := .val (.agg #[.int .u64 (L0 z1), .int .u64 (L1 z1), .int .u64 (L2 z1), .int .u64 (L3 z1)]) :: .val (.agg #[.int .u64 0, .int .u64 0, .int .u64 0, .int .u64 0]) :: .val (.bool false) :: []) (by kernel_rfl) (Nat.le_refl _) ((by exact trivial))
      ⟨fun a w R => ld24 (R.slot 3 rfl) (R.keep OB (by repeat' (first | exact trivial | refine Off.v ?_ | refine Off.k ?_ | refine Off.b ?_ | refine Off.p ?_ | refine Off.s ?_ ?_ | omega))), fun a w R => bld0, fun a w R => eqw (R.val 0 rfl rfl rfl (by kernel_rfl)) (R.val 1 rfl rfl rfl (by kernel_rfl)) EN, trivial⟩ (fun a1 W2 I => ?_)
    rw [I.act [(21, (.agg #[.int .u64 (L0 z1), .int .u64 (L1 z1), .int .u64 (L2 z1), .int .u64 (L3 z1)])), (22, (.agg #[.int .u64 0, .int .u64 0, .int .u64 0, .int .u64 0])), (23, (.bool false))]
      ⟨I.val 0 rfl rfl rfl, I.val 1 rfl rfl rfl, I.val 2 rfl rfl rfl, trivial⟩ rfl]
    have sW2 : W1.heap.size ≤ W2.heap.size := I.below.size
    replace OA := I.keep OA (by repeat' (first | exact trivial | refine Off.v ?_ | refine Off.k ?_ | refine Off.b ?_ | refine Off.p ?_ | refine Off.s ?_ ?_ | omega))
    replace OB := I.keep OB (by repeat' (first | exact trivial | refine Off.v ?_ | refine Off.k ?_ | refine Off.b ?_ | refine Off.p ?_ | refine Off.s ?_ ?_ | omega))
    replace o5 := I.keep o5 (by repeat' (first | exact trivial | refine Off.v ?_ | refine Off.k ?_ | refine Off.b ?_ | refine Off.p ?_ | refine Off.s ?_ ?_ | omega))
    replace o6 := I.keep o6 (by repeat' (first | exact trivial | refine Off.v ?_ | refine Off.k ?_ | refine Off.b ?_ | refine Off.p ?_ | refine Off.s ?_ ?_ | omega))
    have hW2 : Below w.heap.size w W2 := then_ hW1 I.below hW1.size
    clear I
    simp only [List.foldl_cons, List.foldl_nil, List.setIfInBounds_toArray, List.set_cons_zero, List.set_cons_succ]
    clear EN
    go_upto_region 4 with fail
    refine region_memo_f (B := W2.heap.size) (L := .val (.int .i64 3) :: .val (.bool true) :: []) (by kernel_rfl) (Nat.le_refl _) ((by exact trivial))
      ⟨fun a w R => mv (R.slot 7 rfl), fun a w R => nqk (R.val 0 rfl rfl rfl (by kernel_rfl)) (Tryd.underlying25) rfl, trivial⟩ (fun a1 W3 I => ?_)
    rw [I.act [(39, (.int .i64 3)), (40, (.bool true))]
      ⟨I.val 0 rfl rfl rfl, I.val 1 rfl rfl rfl, trivial⟩ rfl]
    have sW3 : W2.heap.size ≤ W3.heap.size := I.below.size
    replace OA := I.keep OA (by repeat' (first | exact trivial | refine Off.v ?_ | refine Off.k ?_ | refine Off.b ?_ | refine Off.p ?_ | refine Off.s ?_ ?_ | omega))
    replace OB := I.keep OB (by repeat' (first | exact trivial | refine Off.v ?_ | refine Off.k ?_ | refine Off.b ?_ | refine Off.p ?_ | refine Off.s ?_ ?_ | omega))
    replace o5 := I.keep o5 (by repeat' (first | exact trivial | refine Off.v ?_ | refine Off.k ?_ | refine Off.b ?_ | refine Off.p ?_ | refine Off.s ?_ ?_ | omega))
    replace o6 := I.keep o6 (by repeat' (first | exact trivial | refine Off.v ?_ | refine Off.k ?_ | refine Off.b ?_ | refine Off.p ?_ | refine Off.s ?_ ?_ | omega))
    have hW3 : Below w.heap.size w W3 := then_ hW2 I.below hW2.size
    clear I
    simp only [List.foldl_cons, List.foldl_nil, List.setIfInBounds_toArray, List.set_cons_zero, List.set_cons_succ]
    go_upto_region 5 with fail
    have HP : Pow10 W3.drew := hp.keep hW3.drew
    subst hb
    refine region_memo (B := W3.heap.size) (L := .val (.bool true) :: .val (.bool true) :: .val (.int .i64 3) :: .val (.bool true) :: .val (.bool true) :: .val (.bool true) :: .val (.agg #[.int .u64 (L0 (-1)), .int .u64 (L1 (-1)), .int .u64 (L2 (-1)), .int .u64 (L3 (-1))]) :: .val (.agg #[.int .u64 (L0 (-1)), .int .u64 (L1 (-1)), .int .u64 (L2 (-1)), .int .u64 (L3 (-1))]) :: .val (.bool true) :: .val (.bool true) :: .val (.bool true) :: .val (.agg #[.int .u64 (L0 z0), .int .u64 (L1 z0), .int .u64 (L2 z0), .int .u64 (L3 z0)]) :: .val (.int .i64 (-1)) :: .val (.bool true) :: .val (.bool true) :: .val (.bool true) :: []) (by kernel_rfl) (by kernel_rfl) (Nat.le_refl _) ((by exact trivial))
      ⟨fun a w R => cl0 en_awake (awake_any _ (HP.keep R.below)), fun a w R => mv (R.val 0 rfl rfl rfl (by kernel_rfl)), fun a w R => mv (R.slot 7 rfl), fun a w R => eqk (R.val 2 rfl rfl rfl (by kernel_rfl)) (Tryd.underlying25) rfl, fun a w R => pickt (R.val 1 rfl rfl rfl (by kernel_rfl)) (R.val 3 rfl rfl rfl (by kernel_rfl)), fun a w R => mv (R.val 4 rfl rfl rfl (by kernel_rfl)), fun a w R => ld24 (R.slot 3 rfl) (R.keep OB.drawn (by repeat' (first | exact trivial | refine Off.v ?_ | refine Off.k ?_ | refine Off.b ?_ | refine Off.p ?_ | refine Off.s ?_ ?_ | omega))), fun a w R => clk en_Of (of_b (-1) (by decide) (by decide) _), fun a w R => eqw (R.val 6 rfl rfl rfl (by kernel_rfl)) (R.val 7 rfl rfl rfl (by kernel_rfl)) (eq_i (-1)), fun a w R => pickt (R.val 5 rfl rfl rfl (by kernel_rfl)) (R.val 8 rfl rfl rfl (by kernel_rfl)), fun a w R => mv (R.val 9 rfl rfl rfl (by kernel_rfl)), fun a w R => ld24 (R.slot 2 rfl) (R.keep OA.drawn (by repeat' (first | exact trivial | refine Off.v ?_ | refine Off.k ?_ | refine Off.b ?_ | refine Off.p ?_ | refine Off.s ?_ ?_ | omega))), fun a w R => cl1 en_Sign (R.val 11 rfl rfl rfl (by kernel_rfl)) (SA.out _), fun a w R => ltk (R.val 12 rfl rfl rfl (by kernel_rfl)) (Tryd.underlying3) rfl, fun a w R => pickt (R.val 10 rfl rfl rfl (by kernel_rfl)) (R.val 13 rfl rfl rfl (by kernel_rfl)), fun a w R => asg (R.val 14 rfl rfl rfl (by kernel_rfl)), trivial⟩ (fun a1 W4 I => ?_)
    rw [I.act [(41, (.bool true)), (42, (.bool true)), (43, (.int .i64 3)), (44, (.bool true)), (45, (.bool true)), (46, (.bool true)), (47, (.agg #[.int .u64 (L0 (-1)), .int .u64 (L1 (-1)), .int .u64 (L2 (-1)), .int .u64 (L3 (-1))])), (48, (.agg #[.int .u64 (L0 (-1)), .int .u64 (L1 (-1)), .int .u64 (L2 (-1)), .int .u64 (L3 (-1))])), (49, (.bool true)), (50, (.bool true)), (51, (.bool true)), (52, (.agg #[.int .u64 (L0 z0), .int .u64 (L1 z0), .int .u64 (L2 z0), .int .u64 (L3 z0)])), (53, (.int .i64 (-1))), (54, (.bool true)), (55, (.bool true)), (4, (.bool true))]
      ⟨I.val 0 rfl rfl rfl, I.val 1 rfl rfl rfl, I.val 2 rfl rfl rfl, I.val 3 rfl rfl rfl, I.val 4 rfl rfl rfl, I.val 5 rfl rfl rfl, I.val 6 rfl rfl rfl, I.val 7 rfl rfl rfl, I.val 8 rfl rfl rfl, I.val 9 rfl rfl rfl, I.val 10 rfl rfl rfl, I.val 11 rfl rfl rfl, I.val 12 rfl rfl rfl, I.val 13 rfl rfl rfl, I.val 14 rfl rfl rfl, I.val 15 rfl rfl rfl, trivial⟩ rfl]
    have sW4 : W3.heap.size ≤ W4.heap.size := I.below.size
    replace OA := I.keep OA.drawn (by repeat' (first | exact trivial | refine Off.v ?_ | refine Off.k ?_ | refine Off.b ?_ | refine Off.p ?_ | refine Off.s ?_ ?_ | omega))
    replace OB := I.keep OB.drawn (by repeat' (first | exact trivial | refine Off.v ?_ | refine Off.k ?_ | refine Off.b ?_ | refine Off.p ?_ | refine Off.s ?_ ?_ | omega))
    replace o5 := I.keep o5.drawn (by repeat' (first | exact trivial | refine Off.v ?_ | refine Off.k ?_ | refine Off.b ?_ | refine Off.p ?_ | refine Off.s ?_ ?_ | omega))
    replace o6 := I.keep o6.drawn (by repeat' (first | exact trivial | refine Off.v ?_ | refine Off.k ?_ | refine Off.b ?_ | refine Off.p ?_ | refine Off.s ?_ ?_ | omega))
    have hW4 : Below w.heap.size w W4 := then_ hW3.drew I.below hW3.size
    clear I
    simp only [List.foldl_cons, List.foldl_nil, List.setIfInBounds_toArray, List.set_cons_zero, List.set_cons_succ]
    go_wp2
    go_ret
    exact ⟨rfl, hW4⟩
  · have EN := eq_no f1 hz
    obtain ⟨r1, r2, r3⟩ := rest_facts (a := z0) hz
    rw [← hr] at r1 r2 r3
    have hsum : q * z1 + r = z0 := by rw [hq, hr, Int.mul_comm]; exact Int.mul_tdiv_add_tmod z0 z1
    have fp : Fit (q * z1) := by obtain ⟨_, _⟩ := f0; exact ⟨by omega, by omega⟩
    have M1 := Lib.hid (fun w => mul_fit q z1 fq f1 fp w)
    obtain ⟨p, hp'⟩ : ∃ x, q * z1 = x := ⟨_, rfl⟩
    rw [hp'] at M1 hsum fp
    have A1 := fun w => add_fit p r fp fr (by rw [hsum]; exact f0) w
    rw [hsum] at A1
    have A2 := Lib.hid A1
    subst he
    clear A1 hp' QU fq hq hr hc hsum fp
    refine region_memo_f (B := W1.heap.size) (L := .val (.agg #[.int .u64 (L0 z1), .int .u64 (L1 z1), .int .u64 (L2 z1), .int .u64 (L3 z1)]) :: .val (.agg #[.int .u64 0, .int .u64 0, .int .u64 0, .int .u64 0]) :: .val (.bool false) :: []) (by kernel_rfl) (Nat.le_refl _) ((by exact trivial))
      ⟨fun a w R => ld24 (R.slot 3 rfl) (R.keep OB (by repeat' (first | exact trivial | refine Off.v ?_ | refine Off.k ?_ | refine Off.b ?_ | refine Off.p ?_ | refine Off.s ?_ ?_ | omega))), fun a w R => bld0, fun a w R => eqw (R.val 0 rfl rfl rfl (by kernel_rfl)) (R.val 1 rfl rfl rfl (by kernel_rfl)) EN, trivial⟩ (fun a1 W2 I => ?_)
    rw [I.act [(21, (.agg #[.int .u64 (L0 z1), .int .u64 (L1 z1), .int .u64 (L2 z1), .int .u64 (L3 z1)])), (22, (.agg #[.int .u64 0, .int .u64 0, .int .u64 0, .int .u64 0])), (23, (.bool false))]
      ⟨I.val 0 rfl rfl rfl, I.val 1 rfl rfl rfl, I.val 2 rfl rfl rfl, trivial⟩ rfl]
    have sW2 : W1.heap.size ≤ W2.heap.size := I.below.size
    replace OA := I.keep OA (by repeat' (first | exact trivial | refine Off.v ?_ | refine Off.k ?_ | refine Off.b ?_ | refine Off.p ?_ | refine Off.s ?_ ?_ | omega))
    replace OB := I.keep OB (by repeat' (first | exact trivial | refine Off.v ?_ | refine Off.k ?_ | refine Off.b ?_ | refine Off.p ?_ | refine Off.s ?_ ?_ | omega))
    replace o5 := I.keep o5 (by repeat' (first | exact trivial | refine Off.v ?_ | refine Off.k ?_ | refine Off.b ?_ | refine Off.p ?_ | refine Off.s ?_ ?_ | omega))
    replace o6 := I.keep o6 (by repeat' (first | exact trivial | refine Off.v ?_ | refine Off.k ?_ | refine Off.b ?_ | refine Off.p ?_ | refine Off.s ?_ ?_ | omega))
    have hW2 : Below w.heap.size w W2 := then_ hW1 I.below hW1.size
    clear I
    simp only [List.foldl_cons, List.foldl_nil, List.setIfInBounds_toArray, List.set_cons_zero, List.set_cons_succ]
    clear EN
    go_upto_region 4 with fail
    refine region_memo_f (B := W2.heap.size) (L := .val (.int .i64 0) :: .val (.bool false) :: []) (by kernel_rfl) (Nat.le_refl _) ((by exact trivial))
      ⟨fun a w R => mv (R.slot 7 rfl), fun a w R => nqk (R.val 0 rfl rfl rfl (by kernel_rfl)) (Tryd.underlying25) rfl, trivial⟩ (fun a1 W3 I => ?_)
    rw [I.act [(39, (.int .i64 0)), (40, (.bool false))]
      ⟨I.val 0 rfl rfl rfl, I.val 1 rfl rfl rfl, trivial⟩ rfl]
    have sW3 : W2.heap.size ≤ W3.heap.size := I.below.size
    replace OA := I.keep OA (by repeat' (first | exact trivial | refine Off.v ?_ | refine Off.k ?_ | refine Off.b ?_ | refine Off.p ?_ | refine Off.s ?_ ?_ | omega))
    replace OB := I.keep OB (by repeat' (first | exact trivial | refine Off.v ?_ | refine Off.k ?_ | refine Off.b ?_ | refine Off.p ?_ | refine Off.s ?_ ?_ | omega))
    replace o5 := I.keep o5 (by repeat' (first | exact trivial | refine Off.v ?_ | refine Off.k ?_ | refine Off.b ?_ | refine Off.p ?_ | refine Off.s ?_ ?_ | omega))
    replace o6 := I.keep o6 (by repeat' (first | exact trivial | refine Off.v ?_ | refine Off.k ?_ | refine Off.b ?_ | refine Off.p ?_ | refine Off.s ?_ ?_ | omega))
    have hW3 : Below w.heap.size w W3 := then_ hW2 I.below hW2.size
    clear I
    simp only [List.foldl_cons, List.foldl_nil, List.setIfInBounds_toArray, List.set_cons_zero, List.set_cons_succ]
    go_upto_region 6 with fail
    refine region_memo_f (B := W3.heap.size) (L := .val (.agg #[.int .u64 (L0 q), .int .u64 (L1 q), .int .u64 (L2 q), .int .u64 (L3 q)]) :: .val (.agg #[.int .u64 (L0 z1), .int .u64 (L1 z1), .int .u64 (L2 z1), .int .u64 (L3 z1)]) :: .val (.tuple #[(.agg #[.int .u64 (L0 p), .int .u64 (L1 p), .int .u64 (L2 p), .int .u64 (L3 p)]), (.int .i64 0)]) :: .val (.tuple #[(.agg #[.int .u64 (L0 p), .int .u64 (L1 p), .int .u64 (L2 p), .int .u64 (L3 p)]), (.int .i64 0)]) :: .val (.agg #[.int .u64 (L0 p), .int .u64 (L1 p), .int .u64 (L2 p), .int .u64 (L3 p)]) :: .val (.int .i64 0) :: .blk 24 4 :: .put 8 24 #[.int .u64 (L0 p), .int .u64 (L1 p), .int .u64 (L2 p), .int .u64 (L3 p)] :: .val (.int .i64 0) :: []) (by kernel_rfl) (Nat.le_refl _) ((by exact trivial))
      ⟨fun a w R => ld24 (R.slot 5 rfl) (R.keep o5 (by repeat' (first | exact trivial | refine Off.v ?_ | refine Off.k ?_ | refine Off.b ?_ | refine Off.p ?_ | refine Off.s ?_ ?_ | omega))), fun a w R => ld24 (R.slot 3 rfl) (R.keep OB (by repeat' (first | exact trivial | refine Off.v ?_ | refine Off.k ?_ | refine Off.b ?_ | refine Off.p ?_ | refine Off.s ?_ ?_ | omega))), fun a w R => cl2 en_Mul (R.val 0 rfl rfl rfl (by kernel_rfl)) (R.val 1 rfl rfl rfl (by kernel_rfl)) (M1.out _), fun a w R => mv (R.val 2 rfl rfl rfl (by kernel_rfl)), fun a w R => ex0 (R.val 3 rfl rfl rfl (by kernel_rfl)), fun a w R => ex1 (R.val 3 rfl rfl rfl (by kernel_rfl)), fun a w R => al24, fun a w R => sb24 (R.dep 6 rfl (by kernel_rfl)) (R.val 4 rfl rfl rfl (by kernel_rfl)), fun a w R => asg (R.val 5 rfl rfl rfl (by kernel_rfl)), trivial⟩ (fun a1 W4 I => ?_)
    obtain ⟨b8, e8, l8, o8⟩ := I.put 7 rfl rfl
    rw [I.act [(57, (.agg #[.int .u64 (L0 q), .int .u64 (L1 q), .int .u64 (L2 q), .int .u64 (L3 q)])), (58, (.agg #[.int .u64 (L0 z1), .int .u64 (L1 z1), .int .u64 (L2 z1), .int .u64 (L3 z1)])), (59, (.tuple #[(.agg #[.int .u64 (L0 p), .int .u64 (L1 p), .int .u64 (L2 p), .int .u64 (L3 p)]), (.int .i64 0)])), (56, (.tuple #[(.agg #[.int .u64 (L0 p), .int .u64 (L1 p), .int .u64 (L2 p), .int .u64 (L3 p)]), (.int .i64 0)])), (60, (.agg #[.int .u64 (L0 p), .int .u64 (L1 p), .int .u64 (L2 p), .int .u64 (L3 p)])), (61, (.int .i64 0)), (8, .pointer (some ⟨b8, 0, none⟩)), (9, (.int .i64 0))]
      ⟨I.val 0 rfl rfl rfl, I.val 1 rfl rfl rfl, I.val 2 rfl rfl rfl, I.val 3 rfl rfl rfl, I.val 4 rfl rfl rfl, I.val 5 rfl rfl rfl, e8, I.val 8 rfl rfl rfl, trivial⟩ rfl]
    change W3.heap.size ≤ b8 at l8
    have sW4 : W3.heap.size ≤ W4.heap.size := I.below.size
    replace OA := I.keep OA (by repeat' (first | exact trivial | refine Off.v ?_ | refine Off.k ?_ | refine Off.b ?_ | refine Off.p ?_ | refine Off.s ?_ ?_ | omega))
    replace OB := I.keep OB (by repeat' (first | exact trivial | refine Off.v ?_ | refine Off.k ?_ | refine Off.b ?_ | refine Off.p ?_ | refine Off.s ?_ ?_ | omega))
    replace o5 := I.keep o5 (by repeat' (first | exact trivial | refine Off.v ?_ | refine Off.k ?_ | refine Off.b ?_ | refine Off.p ?_ | refine Off.s ?_ ?_ | omega))
    replace o6 := I.keep o6 (by repeat' (first | exact trivial | refine Off.v ?_ | refine Off.k ?_ | refine Off.b ?_ | refine Off.p ?_ | refine Off.s ?_ ?_ | omega))
    have hW4 : Below w.heap.size w W4 := then_ hW3 I.below hW3.size
    clear e8
    clear I
    simp only [List.foldl_cons, List.foldl_nil, List.setIfInBounds_toArray, List.set_cons_zero, List.set_cons_succ]
    go_upto_region 7 with fail
    refine region_memo_f (B := W4.heap.size) (L := .val (.agg #[.int .u64 (L0 p), .int .u64 (L1 p), .int .u64 (L2 p), .int .u64 (L3 p)]) :: .val (.agg #[.int .u64 (L0 r), .int .u64 (L1 r), .int .u64 (L2 r), .int .u64 (L3 r)]) :: .val (.tuple #[(.agg #[.int .u64 (L0 z0), .int .u64 (L1 z0), .int .u64 (L2 z0), .int .u64 (L3 z0)]), (.int .i64 0)]) :: .val (.tuple #[(.agg #[.int .u64 (L0 z0), .int .u64 (L1 z0), .int .u64 (L2 z0), .int .u64 (L3 z0)]), (.int .i64 0)]) :: .val (.agg #[.int .u64 (L0 z0), .int .u64 (L1 z0), .int .u64 (L2 z0), .int .u64 (L3 z0)]) :: .val (.int .i64 0) :: .blk 24 4 :: .put 10 24 #[.int .u64 (L0 z0), .int .u64 (L1 z0), .int .u64 (L2 z0), .int .u64 (L3 z0)] :: .val (.int .i64 0) :: []) (by kernel_rfl) (Nat.le_refl _) ((by exact trivial))
      ⟨fun a w R => ld24 (R.slot 8 rfl) (R.keep o8 (by repeat' (first | exact trivial | refine Off.v ?_ | refine Off.k ?_ | refine Off.b ?_ | refine Off.p ?_ | refine Off.s ?_ ?_ | omega))), fun a w R => ld24 (R.slot 6 rfl) (R.keep o6 (by repeat' (first | exact trivial | refine Off.v ?_ | refine Off.k ?_ | refine Off.b ?_ | refine Off.p ?_ | refine Off.s ?_ ?_ | omega))), fun a w R => cl2 en_Add (R.val 0 rfl rfl rfl (by kernel_rfl)) (R.val 1 rfl rfl rfl (by kernel_rfl)) (A2.out _), fun a w R => mv (R.val 2 rfl rfl rfl (by kernel_rfl)), fun a w R => ex0 (R.val 3 rfl rfl rfl (by kernel_rfl)), fun a w R => ex1 (R.val 3 rfl rfl rfl (by kernel_rfl)), fun a w R => al24, fun a w R => sb24 (R.dep 6 rfl (by kernel_rfl)) (R.val 4 rfl rfl rfl (by kernel_rfl)), fun a w R => asg (R.val 5 rfl rfl rfl (by kernel_rfl)), trivial⟩ (fun a1 W5 I => ?_)
    obtain ⟨b10, e10, l10, o10⟩ := I.put 7 rfl rfl
    rw [I.act [(63, (.agg #[.int .u64 (L0 p), .int .u64 (L1 p), .int .u64 (L2 p), .int .u64 (L3 p)])), (64, (.agg #[.int .u64 (L0 r), .int .u64 (L1 r), .int .u64 (L2 r), .int .u64 (L3 r)])), (65, (.tuple #[(.agg #[.int .u64 (L0 z0), .int .u64 (L1 z0), .int .u64 (L2 z0), .int .u64 (L3 z0)]), (.int .i64 0)])), (62, (.tuple #[(.agg #[.int .u64 (L0 z0), .int .u64 (L1 z0), .int .u64 (L2 z0), .int .u64 (L3 z0)]), (.int .i64 0)])), (66, (.agg #[.int .u64 (L0 z0), .int .u64 (L1 z0), .int .u64 (L2 z0), .int .u64 (L3 z0)])), (67, (.int .i64 0)), (10, .pointer (some ⟨b10, 0, none⟩)), (11, (.int .i64 0))]
      ⟨I.val 0 rfl rfl rfl, I.val 1 rfl rfl rfl, I.val 2 rfl rfl rfl, I.val 3 rfl rfl rfl, I.val 4 rfl rfl rfl, I.val 5 rfl rfl rfl, e10, I.val 8 rfl rfl rfl, trivial⟩ rfl]
    change W4.heap.size ≤ b10 at l10
    have sW5 : W4.heap.size ≤ W5.heap.size := I.below.size
    replace OA := I.keep OA (by repeat' (first | exact trivial | refine Off.v ?_ | refine Off.k ?_ | refine Off.b ?_ | refine Off.p ?_ | refine Off.s ?_ ?_ | omega))
    replace OB := I.keep OB (by repeat' (first | exact trivial | refine Off.v ?_ | refine Off.k ?_ | refine Off.b ?_ | refine Off.p ?_ | refine Off.s ?_ ?_ | omega))
    replace o6 := I.keep o6 (by repeat' (first | exact trivial | refine Off.v ?_ | refine Off.k ?_ | refine Off.b ?_ | refine Off.p ?_ | refine Off.s ?_ ?_ | omega))
    replace o8 := I.keep o8 (by repeat' (first | exact trivial | refine Off.v ?_ | refine Off.k ?_ | refine Off.b ?_ | refine Off.p ?_ | refine Off.s ?_ ?_ | omega))
    have hW5 : Below w.heap.size w W5 := then_ hW4 I.below hW4.size
    clear e10
    clear I
    simp only [List.foldl_cons, List.foldl_nil, List.setIfInBounds_toArray, List.set_cons_zero, List.set_cons_succ]
    clear M1 A2 o5 o8
    go_upto_region 8 with fail
    rcases (by omega : (0 < r ∧ 0 < z1) ∨ (0 < r ∧ z1 < 0) ∨ (r = 0 ∧ 0 < z1) ∨ (r = 0 ∧ z1 < 0) ∨ (r < 0 ∧ 0 < z1) ∨ (r < 0 ∧ z1 < 0)) with ⟨hr, hb⟩ | ⟨hr, hb⟩ | ⟨hr, hb⟩ | ⟨hr, hb⟩ | ⟨hr, hb⟩ | ⟨hr, hb⟩
    · have SR1 := fun w => sign_b r fr w
      rw [show sgnZ r = 1 by unfold sgnZ; split <;> (try split) <;> omega] at SR1
      have SR := Lib.hid SR1
      have SA1 := fun w => sign_b z0 f0 w
      rw [show sgnZ z0 = 1 by unfold sgnZ; split <;> (try split) <;> omega] at SA1
      have SA := Lib.hid SA1
      clear SA1
      have SB1 := fun w => sign_b z1 f1 w
      rw [show sgnZ z1 = 1 by unfold sgnZ; split <;> (try split) <;> omega] at SB1
      have SB := Lib.hid SB1
      have fx : Fit (0 - r) := by obtain ⟨_, _⟩ := fr; exact ⟨by omega, by omega⟩
      have NR := Lib.hid (fun w => neg_fit r fr fx w)
      have fy : Fit (0 - z1) := by obtain ⟨_, _⟩ := f1; exact ⟨by omega, by omega⟩
      have NB := Lib.hid (fun w => neg_fit z1 f1 fy w)
      have CM1 := fun w => Cmp_any (0 - z1) (0 - r) fy fx w
      rw [show cmpZ (0 - z1) (0 - r) = -1 by unfold cmpZ; rw [if_pos (by omega)]] at CM1
      have CM := Lib.hid CM1
      clear CM1 SR1 SB1 fr f0 f1 r1 r2 r3 fx fy
      refine region_memo (B := W5.heap.size) (L := .val (.int .i64 0) :: .val (.bool false) :: .val (.bool false) :: .val (.int .i64 0) :: .val (.bool false) :: .val (.bool false) :: .val (.bool false) :: .val (.agg #[.int .u64 (L0 z0), .int .u64 (L1 z0), .int .u64 (L2 z0), .int .u64 (L3 z0)]) :: .val (.agg #[.int .u64 (L0 z0), .int .u64 (L1 z0), .int .u64 (L2 z0), .int .u64 (L3 z0)]) :: .val (.bool false) :: .val (.bool false) :: .val (.bool false) :: .val (.agg #[.int .u64 (L0 r), .int .u64 (L1 r), .int .u64 (L2 r), .int .u64 (L3 r)]) :: .val (.int .i64 (1)) :: .val (.bool true) :: .val (.bool true) :: .val (.agg #[.int .u64 (L0 r), .int .u64 (L1 r), .int .u64 (L2 r), .int .u64 (L3 r)]) :: .val (.int .i64 (1)) :: .val (.agg #[.int .u64 (L0 z0), .int .u64 (L1 z0), .int .u64 (L2 z0), .int .u64 (L3 z0)]) :: .val (.int .i64 (1)) :: .val (.bool false) :: .val (.bool false) :: .val (.bool false) :: []) (by kernel_rfl) (by kernel_rfl) (Nat.le_refl _) ((by exact trivial))
        ⟨fun a w R => mv (R.slot 9 rfl), fun a w R => nqk (R.val 0 rfl rfl rfl (by kernel_rfl)) (Tryd.underlying25) rfl, fun a w R => mv (R.val 1 rfl rfl rfl (by kernel_rfl)), fun a w R => mv (R.slot 11 rfl), fun a w R => nqk (R.val 3 rfl rfl rfl (by kernel_rfl)) (Tryd.underlying25) rfl, fun a w R => pickn (R.val 2 rfl rfl rfl (by kernel_rfl)) (R.val 4 rfl rfl rfl (by kernel_rfl)), fun a w R => mv (R.val 5 rfl rfl rfl (by kernel_rfl)), fun a w R => ld24 (R.slot 10 rfl) (R.keep o10.drawn (by repeat' (first | exact trivial | refine Off.v ?_ | refine Off.k ?_ | refine Off.b ?_ | refine Off.p ?_ | refine Off.s ?_ ?_ | omega))), fun a w R => ld24 (R.slot 2 rfl) (R.keep OA.drawn (by repeat' (first | exact trivial | refine Off.v ?_ | refine Off.k ?_ | refine Off.b ?_ | refine Off.p ?_ | refine Off.s ?_ ?_ | omega))), fun a w R => nqw (R.val 7 rfl rfl rfl (by kernel_rfl)) (R.val 8 rfl rfl rfl (by kernel_rfl)) (eq_i z0), fun a w R => pickn (R.val 6 rfl rfl rfl (by kernel_rfl)) (R.val 9 rfl rfl rfl (by kernel_rfl)), fun a w R => mv (R.val 10 rfl rfl rfl (by kernel_rfl)), fun a w R => ld24 (R.slot 6 rfl) (R.keep o6.drawn (by repeat' (first | exact trivial | refine Off.v ?_ | refine Off.k ?_ | refine Off.b ?_ | refine Off.p ?_ | refine Off.s ?_ ?_ | omega))), fun a w R => cl1 en_Sign (R.val 12 rfl rfl rfl (by kernel_rfl)) (SR.out _), fun a w R => nqk (R.val 13 rfl rfl rfl (by kernel_rfl)) (Tryd.underlying3) rfl, fun a w R => mv (R.val 14 rfl rfl rfl (by kernel_rfl)), fun a w R => ld24 (R.slot 6 rfl) (R.keep o6.drawn (by repeat' (first | exact trivial | refine Off.v ?_ | refine Off.k ?_ | refine Off.b ?_ | refine Off.p ?_ | refine Off.s ?_ ?_ | omega))), fun a w R => cl1 en_Sign (R.val 16 rfl rfl rfl (by kernel_rfl)) (SR.out _), fun a w R => ld24 (R.slot 2 rfl) (R.keep OA.drawn (by repeat' (first | exact trivial | refine Off.v ?_ | refine Off.k ?_ | refine Off.b ?_ | refine Off.p ?_ | refine Off.s ?_ ?_ | omega))), fun a w R => cl1 en_Sign (R.val 18 rfl rfl rfl (by kernel_rfl)) (SA.out _), fun a w R => nqi (R.val 17 rfl rfl rfl (by kernel_rfl)) (R.val 19 rfl rfl rfl (by kernel_rfl)) (Tryd.underlying3) rfl, fun a w R => pickt (R.val 15 rfl rfl rfl (by kernel_rfl)) (R.val 20 rfl rfl rfl (by kernel_rfl)), fun a w R => pickn (R.val 11 rfl rfl rfl (by kernel_rfl)) (R.val 21 rfl rfl rfl (by kernel_rfl)), trivial⟩ (fun a1 W6 I => ?_)
      rw [I.act [(68, (.int .i64 0)), (69, (.bool false)), (70, (.bool false)), (71, (.int .i64 0)), (72, (.bool false)), (73, (.bool false)), (74, (.bool false)), (75, (.agg #[.int .u64 (L0 z0), .int .u64 (L1 z0), .int .u64 (L2 z0), .int .u64 (L3 z0)])), (76, (.agg #[.int .u64 (L0 z0), .int .u64 (L1 z0), .int .u64 (L2 z0), .int .u64 (L3 z0)])), (77, (.bool false)), (78, (.bool false)), (79, (.bool false)), (80, (.agg #[.int .u64 (L0 r), .int .u64 (L1 r), .int .u64 (L2 r), .int .u64 (L3 r)])), (81, (.int .i64 (1))), (82, (.bool true)), (83, (.bool true)), (84, (.agg #[.int .u64 (L0 r), .int .u64 (L1 r), .int .u64 (L2 r), .int .u64 (L3 r)])), (85, (.int .i64 (1))), (86, (.agg #[.int .u64 (L0 z0), .int .u64 (L1 z0), .int .u64 (L2 z0), .int .u64 (L3 z0)])), (87, (.int .i64 (1))), (88, (.bool false)), (89, (.bool false)), (90, (.bool false))]
        ⟨I.val 0 rfl rfl rfl, I.val 1 rfl rfl rfl, I.val 2 rfl rfl rfl, I.val 3 rfl rfl rfl, I.val 4 rfl rfl rfl, I.val 5 rfl rfl rfl, I.val 6 rfl rfl rfl, I.val 7 rfl rfl rfl, I.val 8 rfl rfl rfl, I.val 9 rfl rfl rfl, I.val 10 rfl rfl rfl, I.val 11 rfl rfl rfl, I.val 12 rfl rfl rfl, I.val 13 rfl rfl rfl, I.val 14 rfl rfl rfl, I.val 15 rfl rfl rfl, I.val 16 rfl rfl rfl, I.val 17 rfl rfl rfl, I.val 18 rfl rfl rfl, I.val 19 rfl rfl rfl, I.val 20 rfl rfl rfl, I.val 21 rfl rfl rfl, I.val 22 rfl rfl rfl, trivial⟩ rfl]
      have sW6 : W5.heap.size ≤ W6.heap.size := I.below.size
      replace OA := I.keep OA.drawn (by repeat' (first | exact trivial | refine Off.v ?_ | refine Off.k ?_ | refine Off.b ?_ | refine Off.p ?_ | refine Off.s ?_ ?_ | omega))
      replace OB := I.keep OB.drawn (by repeat' (first | exact trivial | refine Off.v ?_ | refine Off.k ?_ | refine Off.b ?_ | refine Off.p ?_ | refine Off.s ?_ ?_ | omega))
      replace o6 := I.keep o6.drawn (by repeat' (first | exact trivial | refine Off.v ?_ | refine Off.k ?_ | refine Off.b ?_ | refine Off.p ?_ | refine Off.s ?_ ?_ | omega))
      replace o10 := I.keep o10.drawn (by repeat' (first | exact trivial | refine Off.v ?_ | refine Off.k ?_ | refine Off.b ?_ | refine Off.p ?_ | refine Off.s ?_ ?_ | omega))
      have hW6 : Below w.heap.size w W6 := then_ hW5.drew I.below hW5.size
      clear I
      simp only [List.foldl_cons, List.foldl_nil, List.setIfInBounds_toArray, List.set_cons_zero, List.set_cons_succ]
      go_upto_region 10 with fail
      refine region_memo (B := W6.heap.size) (L := .val (.agg #[.int .u64 (L0 r), .int .u64 (L1 r), .int .u64 (L2 r), .int .u64 (L3 r)]) :: .val (.agg #[.int .u64 (L0 z1), .int .u64 (L1 z1), .int .u64 (L2 z1), .int .u64 (L3 z1)]) :: .blk 24 4 :: .blk 24 4 :: .put 12 24 #[.int .u64 (L0 r), .int .u64 (L1 r), .int .u64 (L2 r), .int .u64 (L3 r)] :: .put 13 24 #[.int .u64 (L0 z1), .int .u64 (L1 z1), .int .u64 (L2 z1), .int .u64 (L3 z1)] :: []) (by kernel_rfl) (by kernel_rfl) (Nat.le_refl _) ((by exact trivial))
        ⟨fun a w R => ld24 (R.slot 6 rfl) (R.keep o6.drawn (by repeat' (first | exact trivial | refine Off.v ?_ | refine Off.k ?_ | refine Off.b ?_ | refine Off.p ?_ | refine Off.s ?_ ?_ | omega))), fun a w R => ld24 (R.slot 3 rfl) (R.keep OB.drawn (by repeat' (first | exact trivial | refine Off.v ?_ | refine Off.k ?_ | refine Off.b ?_ | refine Off.p ?_ | refine Off.s ?_ ?_ | omega))), fun a w R => al24, fun a w R => al24, fun a w R => sb24 (R.dep 2 rfl (by kernel_rfl)) (R.val 0 rfl rfl rfl (by kernel_rfl)), fun a w R => sb24 (R.dep 3 rfl (by kernel_rfl)) (R.val 1 rfl rfl rfl (by kernel_rfl)), trivial⟩ (fun a1 W7 I => ?_)
      obtain ⟨b12, e12, l12, o12⟩ := I.put 4 rfl rfl
      obtain ⟨b13, e13, l13, o13⟩ := I.put 5 rfl rfl
      have n12_13 := I.far 2 3 rfl rfl (by omega) rfl rfl rfl rfl e12 e13
      rw [I.act [(91, (.agg #[.int .u64 (L0 r), .int .u64 (L1 r), .int .u64 (L2 r), .int .u64 (L3 r)])), (92, (.agg #[.int .u64 (L0 z1), .int .u64 (L1 z1), .int .u64 (L2 z1), .int .u64 (L3 z1)])), (12, .pointer (some ⟨b12, 0, none⟩)), (13, .pointer (some ⟨b13, 0, none⟩))]
        ⟨I.val 0 rfl rfl rfl, I.val 1 rfl rfl rfl, e12, e13, trivial⟩ rfl]
      change W6.heap.size ≤ b12 at l12
      change W6.heap.size ≤ b13 at l13
      have sW7 : W6.heap.size ≤ W7.heap.size := I.below.size
      replace OB := I.keep OB.drawn (by repeat' (first | exact trivial | refine Off.v ?_ | refine Off.k ?_ | refine Off.b ?_ | refine Off.p ?_ | refine Off.s ?_ ?_ | omega))
      replace o6 := I.keep o6.drawn (by repeat' (first | exact trivial | refine Off.v ?_ | refine Off.k ?_ | refine Off.b ?_ | refine Off.p ?_ | refine Off.s ?_ ?_ | omega))
      have hW7 : Below w.heap.size w W7 := then_ hW6.drew I.below hW6.size
      clear e12 e13
      clear I
      simp only [List.foldl_cons, List.foldl_nil, List.setIfInBounds_toArray, List.set_cons_zero, List.set_cons_succ]
      go_upto_region 11 with fail
      have z0' := hW6.size
      have l12' : w.heap.size ≤ b12 := Nat.le_trans z0' l12
      have l13' : w.heap.size ≤ b13 := Nat.le_trans z0' l13
      clear z0'
      refine region_memo_f (B := W7.heap.size) (L := .val (.agg #[.int .u64 (L0 r), .int .u64 (L1 r), .int .u64 (L2 r), .int .u64 (L3 r)]) :: .val (.int .i64 (1)) :: .val (.bool true) :: []) (by kernel_rfl) (Nat.le_refl _) ((by exact trivial))
        ⟨fun a w R => ld24 (R.slot 12 rfl) (R.keep o12 (by repeat' (first | exact trivial | refine Off.v ?_ | refine Off.k ?_ | refine Off.b ?_ | refine Off.p ?_ | refine Off.s ?_ ?_ | omega))), fun a w R => cl1 en_Sign (R.val 0 rfl rfl rfl (by kernel_rfl)) (SR.out _), fun a w R => gtk (R.val 1 rfl rfl rfl (by kernel_rfl)) (Tryd.underlying3) rfl, trivial⟩ (fun a1 W8 I => ?_)
      rw [I.act [(93, (.agg #[.int .u64 (L0 r), .int .u64 (L1 r), .int .u64 (L2 r), .int .u64 (L3 r)])), (94, (.int .i64 (1))), (95, (.bool true))]
        ⟨I.val 0 rfl rfl rfl, I.val 1 rfl rfl rfl, I.val 2 rfl rfl rfl, trivial⟩ rfl]
      have sW8 : W7.heap.size ≤ W8.heap.size := I.below.size
      replace o12 := I.keep o12 (by repeat' (first | exact trivial | refine Off.v ?_ | refine Off.k ?_ | refine Off.b ?_ | refine Off.p ?_ | refine Off.s ?_ ?_ | omega))
      replace o13 := I.keep o13 (by repeat' (first | exact trivial | refine Off.v ?_ | refine Off.k ?_ | refine Off.b ?_ | refine Off.p ?_ | refine Off.s ?_ ?_ | omega))
      have hW8 : Below w.heap.size w W8 := then_ hW7 I.below hW7.size
      clear I
      simp only [List.foldl_cons, List.foldl_nil, List.setIfInBounds_toArray, List.set_cons_zero, List.set_cons_succ]
      go_upto_region 12 with fail
      refine region_memo_f (B := w.heap.size) (L := .val (.agg #[.int .u64 (L0 r), .int .u64 (L1 r), .int .u64 (L2 r), .int .u64 (L3 r)]) :: .val (.tuple #[(.agg #[.int .u64 (L0 (0 - r)), .int .u64 (L1 (0 - r)), .int .u64 (L2 (0 - r)), .int .u64 (L3 (0 - r))]), (.int .i64 0)]) :: .val (.tuple #[(.agg #[.int .u64 (L0 (0 - r)), .int .u64 (L1 (0 - r)), .int .u64 (L2 (0 - r)), .int .u64 (L3 (0 - r))]), (.int .i64 0)]) :: .val (.agg #[.int .u64 (L0 (0 - r)), .int .u64 (L1 (0 - r)), .int .u64 (L2 (0 - r)), .int .u64 (L3 (0 - r))]) :: .val (.int .i64 0) :: .sto (b12) 24 #[.int .u64 (L0 (0 - r)), .int .u64 (L1 (0 - r)), .int .u64 (L2 (0 - r)), .int .u64 (L3 (0 - r))] :: []) (by kernel_rfl) (hW8.size) (Olds.v (Olds.v (Olds.v (Olds.v (Olds.v (Olds.s (by omega) o12.in_ (by repeat' (first | exact trivial | refine Off.v ?_ | refine Off.k ?_ | refine Off.b ?_ | refine Off.p ?_ | refine Off.s ?_ ?_ | omega)) (trivial)))))))
        ⟨fun a w R => ld24 (R.slot 12 rfl) (R.old 5 rfl rfl (by kernel_rfl) o12), fun a w R => cl1 en_Neg (R.val 0 rfl rfl rfl (by kernel_rfl)) (NR.out _), fun a w R => mv (R.val 1 rfl rfl rfl (by kernel_rfl)), fun a w R => ex0 (R.val 2 rfl rfl rfl (by kernel_rfl)), fun a w R => ex1 (R.val 2 rfl rfl rfl (by kernel_rfl)), fun a w R => so24 (R.slot 12 rfl) (R.own rfl o12) rfl (R.val 3 rfl rfl rfl (by kernel_rfl)), trivial⟩ (fun a1 W9 I => ?_)
      rw [I.act [(97, (.agg #[.int .u64 (L0 r), .int .u64 (L1 r), .int .u64 (L2 r), .int .u64 (L3 r)])), (98, (.tuple #[(.agg #[.int .u64 (L0 (0 - r)), .int .u64 (L1 (0 - r)), .int .u64 (L2 (0 - r)), .int .u64 (L3 (0 - r))]), (.int .i64 0)])), (96, (.tuple #[(.agg #[.int .u64 (L0 (0 - r)), .int .u64 (L1 (0 - r)), .int .u64 (L2 (0 - r)), .int .u64 (L3 (0 - r))]), (.int .i64 0)])), (99, (.agg #[.int .u64 (L0 (0 - r)), .int .u64 (L1 (0 - r)), .int .u64 (L2 (0 - r)), .int .u64 (L3 (0 - r))])), (100, (.int .i64 0))]
        ⟨I.val 0 rfl rfl rfl, I.val 1 rfl rfl rfl, I.val 2 rfl rfl rfl, I.val 3 rfl rfl rfl, I.val 4 rfl rfl rfl, trivial⟩ rfl]
      have sW9 : W8.heap.size ≤ W9.heap.size := I.below.size
      replace o13 := I.keep o13 (by repeat' (first | exact trivial | refine Off.v ?_ | refine Off.k ?_ | refine Off.b ?_ | refine Off.p ?_ | refine Off.s ?_ ?_ | omega))
      replace o12 := I.sto 5 rfl rfl
      have hW9 : Below w.heap.size w W9 := hW8.trans I.below
      clear I
      simp only [List.foldl_cons, List.foldl_nil, List.setIfInBounds_toArray, List.set_cons_zero, List.set_cons_succ]
      go_upto_region 13 with fail
      refine region_memo_f (B := W9.heap.size) (L := .val (.agg #[.int .u64 (L0 z1), .int .u64 (L1 z1), .int .u64 (L2 z1), .int .u64 (L3 z1)]) :: .val (.int .i64 (1)) :: .val (.bool true) :: []) (by kernel_rfl) (Nat.le_refl _) ((by exact trivial))
        ⟨fun a w R => ld24 (R.slot 13 rfl) (R.keep o13 (by repeat' (first | exact trivial | refine Off.v ?_ | refine Off.k ?_ | refine Off.b ?_ | refine Off.p ?_ | refine Off.s ?_ ?_ | omega))), fun a w R => cl1 en_Sign (R.val 0 rfl rfl rfl (by kernel_rfl)) (SB.out _), fun a w R => gtk (R.val 1 rfl rfl rfl (by kernel_rfl)) (Tryd.underlying3) rfl, trivial⟩ (fun a1 W10 I => ?_)
      rw [I.act [(101, (.agg #[.int .u64 (L0 z1), .int .u64 (L1 z1), .int .u64 (L2 z1), .int .u64 (L3 z1)])), (102, (.int .i64 (1))), (103, (.bool true))]
        ⟨I.val 0 rfl rfl rfl, I.val 1 rfl rfl rfl, I.val 2 rfl rfl rfl, trivial⟩ rfl]
      have sW10 : W9.heap.size ≤ W10.heap.size := I.below.size
      replace o12 := I.keep o12 (by repeat' (first | exact trivial | refine Off.v ?_ | refine Off.k ?_ | refine Off.b ?_ | refine Off.p ?_ | refine Off.s ?_ ?_ | omega))
      replace o13 := I.keep o13 (by repeat' (first | exact trivial | refine Off.v ?_ | refine Off.k ?_ | refine Off.b ?_ | refine Off.p ?_ | refine Off.s ?_ ?_ | omega))
      have hW10 : Below w.heap.size w W10 := then_ hW9 I.below hW9.size
      clear I
      simp only [List.foldl_cons, List.foldl_nil, List.setIfInBounds_toArray, List.set_cons_zero, List.set_cons_succ]
      go_upto_region 14 with fail
      refine region_memo_f (B := w.heap.size) (L := .val (.agg #[.int .u64 (L0 z1), .int .u64 (L1 z1), .int .u64 (L2 z1), .int .u64 (L3 z1)]) :: .val (.tuple #[(.agg #[.int .u64 (L0 (0 - z1)), .int .u64 (L1 (0 - z1)), .int .u64 (L2 (0 - z1)), .int .u64 (L3 (0 - z1))]), (.int .i64 0)]) :: .val (.tuple #[(.agg #[.int .u64 (L0 (0 - z1)), .int .u64 (L1 (0 - z1)), .int .u64 (L2 (0 - z1)), .int .u64 (L3 (0 - z1))]), (.int .i64 0)]) :: .val (.agg #[.int .u64 (L0 (0 - z1)), .int .u64 (L1 (0 - z1)), .int .u64 (L2 (0 - z1)), .int .u64 (L3 (0 - z1))]) :: .val (.int .i64 0) :: .sto (b13) 24 #[.int .u64 (L0 (0 - z1)), .int .u64 (L1 (0 - z1)), .int .u64 (L2 (0 - z1)), .int .u64 (L3 (0 - z1))] :: []) (by kernel_rfl) (hW10.size) (Olds.v (Olds.v (Olds.v (Olds.v (Olds.v (Olds.s (by omega) o13.in_ (by repeat' (first | exact trivial | refine Off.v ?_ | refine Off.k ?_ | refine Off.b ?_ | refine Off.p ?_ | refine Off.s ?_ ?_ | omega)) (trivial)))))))
        ⟨fun a w R => ld24 (R.slot 13 rfl) (R.old 5 rfl rfl (by kernel_rfl) o13), fun a w R => cl1 en_Neg (R.val 0 rfl rfl rfl (by kernel_rfl)) (NB.out _), fun a w R => mv (R.val 1 rfl rfl rfl (by kernel_rfl)), fun a w R => ex0 (R.val 2 rfl rfl rfl (by kernel_rfl)), fun a w R => ex1 (R.val 2 rfl rfl rfl (by kernel_rfl)), fun a w R => so24 (R.slot 13 rfl) (R.own rfl o13) rfl (R.val 3 rfl rfl rfl (by kernel_rfl)), trivial⟩ (fun a1 W11 I => ?_)
      rw [I.act [(105, (.agg #[.int .u64 (L0 z1), .int .u64 (L1 z1), .int .u64 (L2 z1), .int .u64 (L3 z1)])), (106, (.tuple #[(.agg #[.int .u64 (L0 (0 - z1)), .int .u64 (L1 (0 - z1)), .int .u64 (L2 (0 - z1)), .int .u64 (L3 (0 - z1))]), (.int .i64 0)])), (104, (.tuple #[(.agg #[.int .u64 (L0 (0 - z1)), .int .u64 (L1 (0 - z1)), .int .u64 (L2 (0 - z1)), .int .u64 (L3 (0 - z1))]), (.int .i64 0)])), (107, (.agg #[.int .u64 (L0 (0 - z1)), .int .u64 (L1 (0 - z1)), .int .u64 (L2 (0 - z1)), .int .u64 (L3 (0 - z1))])), (108, (.int .i64 0))]
        ⟨I.val 0 rfl rfl rfl, I.val 1 rfl rfl rfl, I.val 2 rfl rfl rfl, I.val 3 rfl rfl rfl, I.val 4 rfl rfl rfl, trivial⟩ rfl]
      have sW11 : W10.heap.size ≤ W11.heap.size := I.below.size
      replace o12 := I.keep o12 (by repeat' (first | exact trivial | refine Off.v ?_ | refine Off.k ?_ | refine Off.b ?_ | refine Off.p ?_ | refine Off.s ?_ ?_ | omega))
      replace o13 := I.sto 5 rfl rfl
      have hW11 : Below w.heap.size w W11 := hW10.trans I.below
      clear I
      simp only [List.foldl_cons, List.foldl_nil, List.setIfInBounds_toArray, List.set_cons_zero, List.set_cons_succ]
      go_upto_region 15 with fail
      have HP : Pow10 W11 := hp.keep hW11
      refine region_memo_f (B := W11.heap.size) (L := .val (.bool true) :: .val (.bool true) :: .val (.agg #[.int .u64 (L0 (0 - z1)), .int .u64 (L1 (0 - z1)), .int .u64 (L2 (0 - z1)), .int .u64 (L3 (0 - z1))]) :: .val (.agg #[.int .u64 (L0 (0 - r)), .int .u64 (L1 (0 - r)), .int .u64 (L2 (0 - r)), .int .u64 (L3 (0 - r))]) :: .val (.int .i64 (-1)) :: .val (.bool true) :: .val (.bool true) :: .val (.bool true) :: []) (by kernel_rfl) (Nat.le_refl _) ((by exact trivial))
        ⟨fun a w R => cl0 en_awake (awake_any _ (HP.keep R.below)), fun a w R => mv (R.val 0 rfl rfl rfl (by kernel_rfl)), fun a w R => ld24 (R.slot 13 rfl) (R.keep o13 (by repeat' (first | exact trivial | refine Off.v ?_ | refine Off.k ?_ | refine Off.b ?_ | refine Off.p ?_ | refine Off.s ?_ ?_ | omega))), fun a w R => ld24 (R.slot 12 rfl) (R.keep o12 (by repeat' (first | exact trivial | refine Off.v ?_ | refine Off.k ?_ | refine Off.b ?_ | refine Off.p ?_ | refine Off.s ?_ ?_ | omega))), fun a w R => cl2 en_Cmp (R.val 2 rfl rfl rfl (by kernel_rfl)) (R.val 3 rfl rfl rfl (by kernel_rfl)) (CM.out _), fun a w R => ltk (R.val 4 rfl rfl rfl (by kernel_rfl)) (Tryd.underlying3) rfl, fun a w R => pickt (R.val 1 rfl rfl rfl (by kernel_rfl)) (R.val 5 rfl rfl rfl (by kernel_rfl)), fun a w R => asg (R.val 6 rfl rfl rfl (by kernel_rfl)), trivial⟩ (fun a1 W12 I => ?_)
      rw [I.act [(109, (.bool true)), (110, (.bool true)), (111, (.agg #[.int .u64 (L0 (0 - z1)), .int .u64 (L1 (0 - z1)), .int .u64 (L2 (0 - z1)), .int .u64 (L3 (0 - z1))])), (112, (.agg #[.int .u64 (L0 (0 - r)), .int .u64 (L1 (0 - r)), .int .u64 (L2 (0 - r)), .int .u64 (L3 (0 - r))])), (113, (.int .i64 (-1))), (114, (.bool true)), (115, (.bool true)), (4, (.bool true))]
        ⟨I.val 0 rfl rfl rfl, I.val 1 rfl rfl rfl, I.val 2 rfl rfl rfl, I.val 3 rfl rfl rfl, I.val 4 rfl rfl rfl, I.val 5 rfl rfl rfl, I.val 6 rfl rfl rfl, I.val 7 rfl rfl rfl, trivial⟩ rfl]
      have sW12 : W11.heap.size ≤ W12.heap.size := I.below.size
      replace o12 := I.keep o12 (by repeat' (first | exact trivial | refine Off.v ?_ | refine Off.k ?_ | refine Off.b ?_ | refine Off.p ?_ | refine Off.s ?_ ?_ | omega))
      replace o13 := I.keep o13 (by repeat' (first | exact trivial | refine Off.v ?_ | refine Off.k ?_ | refine Off.b ?_ | refine Off.p ?_ | refine Off.s ?_ ?_ | omega))
      have hW12 : Below w.heap.size w W12 := then_ hW11 I.below hW11.size
      clear I
      simp only [List.foldl_cons, List.foldl_nil, List.setIfInBounds_toArray, List.set_cons_zero, List.set_cons_succ]
      go_wp2
      go_ret
      exact ⟨rfl, hW12⟩
    · have SR1 := fun w => sign_b r fr w
      rw [show sgnZ r = 1 by unfold sgnZ; split <;> (try split) <;> omega] at SR1
      have SR := Lib.hid SR1
      have SA1 := fun w => sign_b z0 f0 w
      rw [show sgnZ z0 = 1 by unfold sgnZ; split <;> (try split) <;> omega] at SA1
      have SA := Lib.hid SA1
      clear SA1
      have SB1 := fun w => sign_b z1 f1 w
      rw [show sgnZ z1 = -1 by unfold sgnZ; split <;> (try split) <;> omega] at SB1
      have SB := Lib.hid SB1
      have fx : Fit (0 - r) := by obtain ⟨_, _⟩ := fr; exact ⟨by omega, by omega⟩
      have NR := Lib.hid (fun w => neg_fit r fr fx w)
      have CM1 := fun w => Cmp_any z1 (0 - r) f1 fx w
      rw [show cmpZ z1 (0 - r) = -1 by unfold cmpZ; rw [if_pos (by omega)]] at CM1
      have CM := Lib.hid CM1
      clear CM1 SR1 SB1 fr f0 f1 r1 r2 r3 fx
      refine region_memo (B := W5.heap.size) (L := .val (.int .i64 0) :: .val (.bool false) :: .val (.bool false) :: .val (.int .i64 0) :: .val (.bool false) :: .val (.bool false) :: .val (.bool false) :: .val (.agg #[.int .u64 (L0 z0), .int .u64 (L1 z0), .int .u64 (L2 z0), .int .u64 (L3 z0)]) :: .val (.agg #[.int .u64 (L0 z0), .int .u64 (L1 z0), .int .u64 (L2 z0), .int .u64 (L3 z0)]) :: .val (.bool false) :: .val (.bool false) :: .val (.bool false) :: .val (.agg #[.int .u64 (L0 r), .int .u64 (L1 r), .int .u64 (L2 r), .int .u64 (L3 r)]) :: .val (.int .i64 (1)) :: .val (.bool true) :: .val (.bool true) :: .val (.agg #[.int .u64 (L0 r), .int .u64 (L1 r), .int .u64 (L2 r), .int .u64 (L3 r)]) :: .val (.int .i64 (1)) :: .val (.agg #[.int .u64 (L0 z0), .int .u64 (L1 z0), .int .u64 (L2 z0), .int .u64 (L3 z0)]) :: .val (.int .i64 (1)) :: .val (.bool false) :: .val (.bool false) :: .val (.bool false) :: []) (by kernel_rfl) (by kernel_rfl) (Nat.le_refl _) ((by exact trivial))
        ⟨fun a w R => mv (R.slot 9 rfl), fun a w R => nqk (R.val 0 rfl rfl rfl (by kernel_rfl)) (Tryd.underlying25) rfl, fun a w R => mv (R.val 1 rfl rfl rfl (by kernel_rfl)), fun a w R => mv (R.slot 11 rfl), fun a w R => nqk (R.val 3 rfl rfl rfl (by kernel_rfl)) (Tryd.underlying25) rfl, fun a w R => pickn (R.val 2 rfl rfl rfl (by kernel_rfl)) (R.val 4 rfl rfl rfl (by kernel_rfl)), fun a w R => mv (R.val 5 rfl rfl rfl (by kernel_rfl)), fun a w R => ld24 (R.slot 10 rfl) (R.keep o10.drawn (by repeat' (first | exact trivial | refine Off.v ?_ | refine Off.k ?_ | refine Off.b ?_ | refine Off.p ?_ | refine Off.s ?_ ?_ | omega))), fun a w R => ld24 (R.slot 2 rfl) (R.keep OA.drawn (by repeat' (first | exact trivial | refine Off.v ?_ | refine Off.k ?_ | refine Off.b ?_ | refine Off.p ?_ | refine Off.s ?_ ?_ | omega))), fun a w R => nqw (R.val 7 rfl rfl rfl (by kernel_rfl)) (R.val 8 rfl rfl rfl (by kernel_rfl)) (eq_i z0), fun a w R => pickn (R.val 6 rfl rfl rfl (by kernel_rfl)) (R.val 9 rfl rfl rfl (by kernel_rfl)), fun a w R => mv (R.val 10 rfl rfl rfl (by kernel_rfl)), fun a w R => ld24 (R.slot 6 rfl) (R.keep o6.drawn (by repeat' (first | exact trivial | refine Off.v ?_ | refine Off.k ?_ | refine Off.b ?_ | refine Off.p ?_ | refine Off.s ?_ ?_ | omega))), fun a w R => cl1 en_Sign (R.val 12 rfl rfl rfl (by kernel_rfl)) (SR.out _), fun a w R => nqk (R.val 13 rfl rfl rfl (by kernel_rfl)) (Tryd.underlying3) rfl, fun a w R => mv (R.val 14 rfl rfl rfl (by kernel_rfl)), fun a w R => ld24 (R.slot 6 rfl) (R.keep o6.drawn (by repeat' (first | exact trivial | refine Off.v ?_ | refine Off.k ?_ | refine Off.b ?_ | refine Off.p ?_ | refine Off.s ?_ ?_ | omega))), fun a w R => cl1 en_Sign (R.val 16 rfl rfl rfl (by kernel_rfl)) (SR.out _), fun a w R => ld24 (R.slot 2 rfl) (R.keep OA.drawn (by repeat' (first | exact trivial | refine Off.v ?_ | refine Off.k ?_ | refine Off.b ?_ | refine Off.p ?_ | refine Off.s ?_ ?_ | omega))), fun a w R => cl1 en_Sign (R.val 18 rfl rfl rfl (by kernel_rfl)) (SA.out _), fun a w R => nqi (R.val 17 rfl rfl rfl (by kernel_rfl)) (R.val 19 rfl rfl rfl (by kernel_rfl)) (Tryd.underlying3) rfl, fun a w R => pickt (R.val 15 rfl rfl rfl (by kernel_rfl)) (R.val 20 rfl rfl rfl (by kernel_rfl)), fun a w R => pickn (R.val 11 rfl rfl rfl (by kernel_rfl)) (R.val 21 rfl rfl rfl (by kernel_rfl)), trivial⟩ (fun a1 W6 I => ?_)
      rw [I.act [(68, (.int .i64 0)), (69, (.bool false)), (70, (.bool false)), (71, (.int .i64 0)), (72, (.bool false)), (73, (.bool false)), (74, (.bool false)), (75, (.agg #[.int .u64 (L0 z0), .int .u64 (L1 z0), .int .u64 (L2 z0), .int .u64 (L3 z0)])), (76, (.agg #[.int .u64 (L0 z0), .int .u64 (L1 z0), .int .u64 (L2 z0), .int .u64 (L3 z0)])), (77, (.bool false)), (78, (.bool false)), (79, (.bool false)), (80, (.agg #[.int .u64 (L0 r), .int .u64 (L1 r), .int .u64 (L2 r), .int .u64 (L3 r)])), (81, (.int .i64 (1))), (82, (.bool true)), (83, (.bool true)), (84, (.agg #[.int .u64 (L0 r), .int .u64 (L1 r), .int .u64 (L2 r), .int .u64 (L3 r)])), (85, (.int .i64 (1))), (86, (.agg #[.int .u64 (L0 z0), .int .u64 (L1 z0), .int .u64 (L2 z0), .int .u64 (L3 z0)])), (87, (.int .i64 (1))), (88, (.bool false)), (89, (.bool false)), (90, (.bool false))]
        ⟨I.val 0 rfl rfl rfl, I.val 1 rfl rfl rfl, I.val 2 rfl rfl rfl, I.val 3 rfl rfl rfl, I.val 4 rfl rfl rfl, I.val 5 rfl rfl rfl, I.val 6 rfl rfl rfl, I.val 7 rfl rfl rfl, I.val 8 rfl rfl rfl, I.val 9 rfl rfl rfl, I.val 10 rfl rfl rfl, I.val 11 rfl rfl rfl, I.val 12 rfl rfl rfl, I.val 13 rfl rfl rfl, I.val 14 rfl rfl rfl, I.val 15 rfl rfl rfl, I.val 16 rfl rfl rfl, I.val 17 rfl rfl rfl, I.val 18 rfl rfl rfl, I.val 19 rfl rfl rfl, I.val 20 rfl rfl rfl, I.val 21 rfl rfl rfl, I.val 22 rfl rfl rfl, trivial⟩ rfl]
      have sW6 : W5.heap.size ≤ W6.heap.size := I.below.size
      replace OA := I.keep OA.drawn (by repeat' (first | exact trivial | refine Off.v ?_ | refine Off.k ?_ | refine Off.b ?_ | refine Off.p ?_ | refine Off.s ?_ ?_ | omega))
      replace OB := I.keep OB.drawn (by repeat' (first | exact trivial | refine Off.v ?_ | refine Off.k ?_ | refine Off.b ?_ | refine Off.p ?_ | refine Off.s ?_ ?_ | omega))
      replace o6 := I.keep o6.drawn (by repeat' (first | exact trivial | refine Off.v ?_ | refine Off.k ?_ | refine Off.b ?_ | refine Off.p ?_ | refine Off.s ?_ ?_ | omega))
      replace o10 := I.keep o10.drawn (by repeat' (first | exact trivial | refine Off.v ?_ | refine Off.k ?_ | refine Off.b ?_ | refine Off.p ?_ | refine Off.s ?_ ?_ | omega))
      have hW6 : Below w.heap.size w W6 := then_ hW5.drew I.below hW5.size
      clear I
      simp only [List.foldl_cons, List.foldl_nil, List.setIfInBounds_toArray, List.set_cons_zero, List.set_cons_succ]
      go_upto_region 10 with fail
      refine region_memo (B := W6.heap.size) (L := .val (.agg #[.int .u64 (L0 r), .int .u64 (L1 r), .int .u64 (L2 r), .int .u64 (L3 r)]) :: .val (.agg #[.int .u64 (L0 z1), .int .u64 (L1 z1), .int .u64 (L2 z1), .int .u64 (L3 z1)]) :: .blk 24 4 :: .blk 24 4 :: .put 12 24 #[.int .u64 (L0 r), .int .u64 (L1 r), .int .u64 (L2 r), .int .u64 (L3 r)] :: .put 13 24 #[.int .u64 (L0 z1), .int .u64 (L1 z1), .int .u64 (L2 z1), .int .u64 (L3 z1)] :: []) (by kernel_rfl) (by kernel_rfl) (Nat.le_refl _) ((by exact trivial))
        ⟨fun a w R => ld24 (R.slot 6 rfl) (R.keep o6.drawn (by repeat' (first | exact trivial | refine Off.v ?_ | refine Off.k ?_ | refine Off.b ?_ | refine Off.p ?_ | refine Off.s ?_ ?_ | omega))), fun a w R => ld24 (R.slot 3 rfl) (R.keep OB.drawn (by repeat' (first | exact trivial | refine Off.v ?_ | refine Off.k ?_ | refine Off.b ?_ | refine Off.p ?_ | refine Off.s ?_ ?_ | omega))), fun a w R => al24, fun a w R => al24, fun a w R => sb24 (R.dep 2 rfl (by kernel_rfl)) (R.val 0 rfl rfl rfl (by kernel_rfl)), fun a w R => sb24 (R.dep 3 rfl (by kernel_rfl)) (R.val 1 rfl rfl rfl (by kernel_rfl)), trivial⟩ (fun a1 W7 I => ?_)
      obtain ⟨b12, e12, l12, o12⟩ := I.put 4 rfl rfl
      obtain ⟨b13, e13, l13, o13⟩ := I.put 5 rfl rfl
      have n12_13 := I.far 2 3 rfl rfl (by omega) rfl rfl rfl rfl e12 e13
      rw [I.act [(91, (.agg #[.int .u64 (L0 r), .int .u64 (L1 r), .int .u64 (L2 r), .int .u64 (L3 r)])), (92, (.agg #[.int .u64 (L0 z1), .int .u64 (L1 z1), .int .u64 (L2 z1), .int .u64 (L3 z1)])), (12, .pointer (some ⟨b12, 0, none⟩)), (13, .pointer (some ⟨b13, 0, none⟩))]
        ⟨I.val 0 rfl rfl rfl, I.val 1 rfl rfl rfl, e12, e13, trivial⟩ rfl]
      change W6.heap.size ≤ b12 at l12
      change W6.heap.size ≤ b13 at l13
      have sW7 : W6.heap.size ≤ W7.heap.size := I.below.size
      replace OB := I.keep OB.drawn (by repeat' (first | exact trivial | refine Off.v ?_ | refine Off.k ?_ | refine Off.b ?_ | refine Off.p ?_ | refine Off.s ?_ ?_ | omega))
      replace o6 := I.keep o6.drawn (by repeat' (first | exact trivial | refine Off.v ?_ | refine Off.k ?_ | refine Off.b ?_ | refine Off.p ?_ | refine Off.s ?_ ?_ | omega))
      have hW7 : Below w.heap.size w W7 := then_ hW6.drew I.below hW6.size
      clear e12 e13
      clear I
      simp only [List.foldl_cons, List.foldl_nil, List.setIfInBounds_toArray, List.set_cons_zero, List.set_cons_succ]
      go_upto_region 11 with fail
      have z0' := hW6.size
      have l12' : w.heap.size ≤ b12 := Nat.le_trans z0' l12
      have l13' : w.heap.size ≤ b13 := Nat.le_trans z0' l13
      clear z0'
      refine region_memo_f (B := W7.heap.size) (L := .val (.agg #[.int .u64 (L0 r), .int .u64 (L1 r), .int .u64 (L2 r), .int .u64 (L3 r)]) :: .val (.int .i64 (1)) :: .val (.bool true) :: []) (by kernel_rfl) (Nat.le_refl _) ((by exact trivial))
        ⟨fun a w R => ld24 (R.slot 12 rfl) (R.keep o12 (by repeat' (first | exact trivial | refine Off.v ?_ | refine Off.k ?_ | refine Off.b ?_ | refine Off.p ?_ | refine Off.s ?_ ?_ | omega))), fun a w R => cl1 en_Sign (R.val 0 rfl rfl rfl (by kernel_rfl)) (SR.out _), fun a w R => gtk (R.val 1 rfl rfl rfl (by kernel_rfl)) (Tryd.underlying3) rfl, trivial⟩ (fun a1 W8 I => ?_)
      rw [I.act [(93, (.agg #[.int .u64 (L0 r), .int .u64 (L1 r), .int .u64 (L2 r), .int .u64 (L3 r)])), (94, (.int .i64 (1))), (95, (.bool true))]
        ⟨I.val 0 rfl rfl rfl, I.val 1 rfl rfl rfl, I.val 2 rfl rfl rfl, trivial⟩ rfl]
      have sW8 : W7.heap.size ≤ W8.heap.size := I.below.size
      replace o12 := I.keep o12 (by repeat' (first | exact trivial | refine Off.v ?_ | refine Off.k ?_ | refine Off.b ?_ | refine Off.p ?_ | refine Off.s ?_ ?_ | omega))
      replace o13 := I.keep o13 (by repeat' (first | exact trivial | refine Off.v ?_ | refine Off.k ?_ | refine Off.b ?_ | refine Off.p ?_ | refine Off.s ?_ ?_ | omega))
      have hW8 : Below w.heap.size w W8 := then_ hW7 I.below hW7.size
      clear I
      simp only [List.foldl_cons, List.foldl_nil, List.setIfInBounds_toArray, List.set_cons_zero, List.set_cons_succ]
      go_upto_region 12 with fail
      refine region_memo_f (B := w.heap.size) (L := .val (.agg #[.int .u64 (L0 r), .int .u64 (L1 r), .int .u64 (L2 r), .int .u64 (L3 r)]) :: .val (.tuple #[(.agg #[.int .u64 (L0 (0 - r)), .int .u64 (L1 (0 - r)), .int .u64 (L2 (0 - r)), .int .u64 (L3 (0 - r))]), (.int .i64 0)]) :: .val (.tuple #[(.agg #[.int .u64 (L0 (0 - r)), .int .u64 (L1 (0 - r)), .int .u64 (L2 (0 - r)), .int .u64 (L3 (0 - r))]), (.int .i64 0)]) :: .val (.agg #[.int .u64 (L0 (0 - r)), .int .u64 (L1 (0 - r)), .int .u64 (L2 (0 - r)), .int .u64 (L3 (0 - r))]) :: .val (.int .i64 0) :: .sto (b12) 24 #[.int .u64 (L0 (0 - r)), .int .u64 (L1 (0 - r)), .int .u64 (L2 (0 - r)), .int .u64 (L3 (0 - r))] :: []) (by kernel_rfl) (hW8.size) (Olds.v (Olds.v (Olds.v (Olds.v (Olds.v (Olds.s (by omega) o12.in_ (by repeat' (first | exact trivial | refine Off.v ?_ | refine Off.k ?_ | refine Off.b ?_ | refine Off.p ?_ | refine Off.s ?_ ?_ | omega)) (trivial)))))))
        ⟨fun a w R => ld24 (R.slot 12 rfl) (R.old 5 rfl rfl (by kernel_rfl) o12), fun a w R => cl1 en_Neg (R.val 0 rfl rfl rfl (by kernel_rfl)) (NR.out _), fun a w R => mv (R.val 1 rfl rfl rfl (by kernel_rfl)), fun a w R => ex0 (R.val 2 rfl rfl rfl (by kernel_rfl)), fun a w R => ex1 (R.val 2 rfl rfl rfl (by kernel_rfl)), fun a w R => so24 (R.slot 12 rfl) (R.own rfl o12) rfl (R.val 3 rfl rfl rfl (by kernel_rfl)), trivial⟩ (fun a1 W9 I => ?_)
      rw [I.act [(97, (.agg #[.int .u64 (L0 r), .int .u64 (L1 r), .int .u64 (L2 r), .int .u64 (L3 r)])), (98, (.tuple #[(.agg #[.int .u64 (L0 (0 - r)), .int .u64 (L1 (0 - r)), .int .u64 (L2 (0 - r)), .int .u64 (L3 (0 - r))]), (.int .i64 0)])), (96, (.tuple #[(.agg #[.int .u64 (L0 (0 - r)), .int .u64 (L1 (0 - r)), .int .u64 (L2 (0 - r)), .int .u64 (L3 (0 - r))]), (.int .i64 0)])), (99, (.agg #[.int .u64 (L0 (0 - r)), .int .u64 (L1 (0 - r)), .int .u64 (L2 (0 - r)), .int .u64 (L3 (0 - r))])), (100, (.int .i64 0))]
        ⟨I.val 0 rfl rfl rfl, I.val 1 rfl rfl rfl, I.val 2 rfl rfl rfl, I.val 3 rfl rfl rfl, I.val 4 rfl rfl rfl, trivial⟩ rfl]
      have sW9 : W8.heap.size ≤ W9.heap.size := I.below.size
      replace o13 := I.keep o13 (by repeat' (first | exact trivial | refine Off.v ?_ | refine Off.k ?_ | refine Off.b ?_ | refine Off.p ?_ | refine Off.s ?_ ?_ | omega))
      replace o12 := I.sto 5 rfl rfl
      have hW9 : Below w.heap.size w W9 := hW8.trans I.below
      clear I
      simp only [List.foldl_cons, List.foldl_nil, List.setIfInBounds_toArray, List.set_cons_zero, List.set_cons_succ]
      go_upto_region 13 with fail
      refine region_memo_f (B := W9.heap.size) (L := .val (.agg #[.int .u64 (L0 z1), .int .u64 (L1 z1), .int .u64 (L2 z1), .int .u64 (L3 z1)]) :: .val (.int .i64 (-1)) :: .val (.bool false) :: []) (by kernel_rfl) (Nat.le_refl _) ((by exact trivial))
        ⟨fun a w R => ld24 (R.slot 13 rfl) (R.keep o13 (by repeat' (first | exact trivial | refine Off.v ?_ | refine Off.k ?_ | refine Off.b ?_ | refine Off.p ?_ | refine Off.s ?_ ?_ | omega))), fun a w R => cl1 en_Sign (R.val 0 rfl rfl rfl (by kernel_rfl)) (SB.out _), fun a w R => gtk (R.val 1 rfl rfl rfl (by kernel_rfl)) (Tryd.underlying3) rfl, trivial⟩ (fun a1 W10 I => ?_)
      rw [I.act [(101, (.agg #[.int .u64 (L0 z1), .int .u64 (L1 z1), .int .u64 (L2 z1), .int .u64 (L3 z1)])), (102, (.int .i64 (-1))), (103, (.bool false))]
        ⟨I.val 0 rfl rfl rfl, I.val 1 rfl rfl rfl, I.val 2 rfl rfl rfl, trivial⟩ rfl]
      have sW10 : W9.heap.size ≤ W10.heap.size := I.below.size
      replace o12 := I.keep o12 (by repeat' (first | exact trivial | refine Off.v ?_ | refine Off.k ?_ | refine Off.b ?_ | refine Off.p ?_ | refine Off.s ?_ ?_ | omega))
      replace o13 := I.keep o13 (by repeat' (first | exact trivial | refine Off.v ?_ | refine Off.k ?_ | refine Off.b ?_ | refine Off.p ?_ | refine Off.s ?_ ?_ | omega))
      have hW10 : Below w.heap.size w W10 := then_ hW9 I.below hW9.size
      clear I
      simp only [List.foldl_cons, List.foldl_nil, List.setIfInBounds_toArray, List.set_cons_zero, List.set_cons_succ]
      go_upto_region 15 with fail
      have HP : Pow10 W10 := hp.keep hW10
      refine region_memo_f (B := W10.heap.size) (L := .val (.bool true) :: .val (.bool true) :: .val (.agg #[.int .u64 (L0 z1), .int .u64 (L1 z1), .int .u64 (L2 z1), .int .u64 (L3 z1)]) :: .val (.agg #[.int .u64 (L0 (0 - r)), .int .u64 (L1 (0 - r)), .int .u64 (L2 (0 - r)), .int .u64 (L3 (0 - r))]) :: .val (.int .i64 (-1)) :: .val (.bool true) :: .val (.bool true) :: .val (.bool true) :: []) (by kernel_rfl) (Nat.le_refl _) ((by exact trivial))
        ⟨fun a w R => cl0 en_awake (awake_any _ (HP.keep R.below)), fun a w R => mv (R.val 0 rfl rfl rfl (by kernel_rfl)), fun a w R => ld24 (R.slot 13 rfl) (R.keep o13 (by repeat' (first | exact trivial | refine Off.v ?_ | refine Off.k ?_ | refine Off.b ?_ | refine Off.p ?_ | refine Off.s ?_ ?_ | omega))), fun a w R => ld24 (R.slot 12 rfl) (R.keep o12 (by repeat' (first | exact trivial | refine Off.v ?_ | refine Off.k ?_ | refine Off.b ?_ | refine Off.p ?_ | refine Off.s ?_ ?_ | omega))), fun a w R => cl2 en_Cmp (R.val 2 rfl rfl rfl (by kernel_rfl)) (R.val 3 rfl rfl rfl (by kernel_rfl)) (CM.out _), fun a w R => ltk (R.val 4 rfl rfl rfl (by kernel_rfl)) (Tryd.underlying3) rfl, fun a w R => pickt (R.val 1 rfl rfl rfl (by kernel_rfl)) (R.val 5 rfl rfl rfl (by kernel_rfl)), fun a w R => asg (R.val 6 rfl rfl rfl (by kernel_rfl)), trivial⟩ (fun a1 W11 I => ?_)
      rw [I.act [(109, (.bool true)), (110, (.bool true)), (111, (.agg #[.int .u64 (L0 z1), .int .u64 (L1 z1), .int .u64 (L2 z1), .int .u64 (L3 z1)])), (112, (.agg #[.int .u64 (L0 (0 - r)), .int .u64 (L1 (0 - r)), .int .u64 (L2 (0 - r)), .int .u64 (L3 (0 - r))])), (113, (.int .i64 (-1))), (114, (.bool true)), (115, (.bool true)), (4, (.bool true))]
        ⟨I.val 0 rfl rfl rfl, I.val 1 rfl rfl rfl, I.val 2 rfl rfl rfl, I.val 3 rfl rfl rfl, I.val 4 rfl rfl rfl, I.val 5 rfl rfl rfl, I.val 6 rfl rfl rfl, I.val 7 rfl rfl rfl, trivial⟩ rfl]
      have sW11 : W10.heap.size ≤ W11.heap.size := I.below.size
      replace o12 := I.keep o12 (by repeat' (first | exact trivial | refine Off.v ?_ | refine Off.k ?_ | refine Off.b ?_ | refine Off.p ?_ | refine Off.s ?_ ?_ | omega))
      replace o13 := I.keep o13 (by repeat' (first | exact trivial | refine Off.v ?_ | refine Off.k ?_ | refine Off.b ?_ | refine Off.p ?_ | refine Off.s ?_ ?_ | omega))
      have hW11 : Below w.heap.size w W11 := then_ hW10 I.below hW10.size
      clear I
      simp only [List.foldl_cons, List.foldl_nil, List.setIfInBounds_toArray, List.set_cons_zero, List.set_cons_succ]
      go_wp2
      go_ret
      exact ⟨rfl, hW11⟩
    · have SR1 := fun w => sign_b r fr w
      rw [show sgnZ r = 0 by unfold sgnZ; split <;> (try split) <;> omega] at SR1
      have SR := Lib.hid SR1
      have SB1 := fun w => sign_b z1 f1 w
      rw [show sgnZ z1 = 1 by unfold sgnZ; split <;> (try split) <;> omega] at SB1
      have SB := Lib.hid SB1
      have fy : Fit (0 - z1) := by obtain ⟨_, _⟩ := f1; exact ⟨by omega, by omega⟩
      have NB := Lib.hid (fun w => neg_fit z1 f1 fy w)
      have CM1 := fun w => Cmp_any (0 - z1) r fy fr w
      rw [show cmpZ (0 - z1) r = -1 by unfold cmpZ; rw [if_pos (by omega)]] at CM1
      have CM := Lib.hid CM1
      clear CM1 SR1 SB1 fr f0 f1 r1 r2 r3 fy
      refine region_memo (B := W5.heap.size) (L := .val (.int .i64 0) :: .val (.bool false) :: .val (.bool false) :: .val (.int .i64 0) :: .val (.bool false) :: .val (.bool false) :: .val (.bool false) :: .val (.agg #[.int .u64 (L0 z0), .int .u64 (L1 z0), .int .u64 (L2 z0), .int .u64 (L3 z0)]) :: .val (.agg #[.int .u64 (L0 z0), .int .u64 (L1 z0), .int .u64 (L2 z0), .int .u64 (L3 z0)]) :: .val (.bool false) :: .val (.bool false) :: .val (.bool false) :: .val (.agg #[.int .u64 (L0 r), .int .u64 (L1 r), .int .u64 (L2 r), .int .u64 (L3 r)]) :: .val (.int .i64 (0)) :: .val (.bool false) :: .val (.bool false) :: .skip :: .skip :: .skip :: .skip :: .skip :: .val (.bool false) :: .val (.bool false) :: []) (by kernel_rfl) (by kernel_rfl) (Nat.le_refl _) ((by exact trivial))
        ⟨fun a w R => mv (R.slot 9 rfl), fun a w R => nqk (R.val 0 rfl rfl rfl (by kernel_rfl)) (Tryd.underlying25) rfl, fun a w R => mv (R.val 1 rfl rfl rfl (by kernel_rfl)), fun a w R => mv (R.slot 11 rfl), fun a w R => nqk (R.val 3 rfl rfl rfl (by kernel_rfl)) (Tryd.underlying25) rfl, fun a w R => pickn (R.val 2 rfl rfl rfl (by kernel_rfl)) (R.val 4 rfl rfl rfl (by kernel_rfl)), fun a w R => mv (R.val 5 rfl rfl rfl (by kernel_rfl)), fun a w R => ld24 (R.slot 10 rfl) (R.keep o10.drawn (by repeat' (first | exact trivial | refine Off.v ?_ | refine Off.k ?_ | refine Off.b ?_ | refine Off.p ?_ | refine Off.s ?_ ?_ | omega))), fun a w R => ld24 (R.slot 2 rfl) (R.keep OA.drawn (by repeat' (first | exact trivial | refine Off.v ?_ | refine Off.k ?_ | refine Off.b ?_ | refine Off.p ?_ | refine Off.s ?_ ?_ | omega))), fun a w R => nqw (R.val 7 rfl rfl rfl (by kernel_rfl)) (R.val 8 rfl rfl rfl (by kernel_rfl)) (eq_i z0), fun a w R => pickn (R.val 6 rfl rfl rfl (by kernel_rfl)) (R.val 9 rfl rfl rfl (by kernel_rfl)), fun a w R => mv (R.val 10 rfl rfl rfl (by kernel_rfl)), fun a w R => ld24 (R.slot 6 rfl) (R.keep o6.drawn (by repeat' (first | exact trivial | refine Off.v ?_ | refine Off.k ?_ | refine Off.b ?_ | refine Off.p ?_ | refine Off.s ?_ ?_ | omega))), fun a w R => cl1 en_Sign (R.val 12 rfl rfl rfl (by kernel_rfl)) (SR.out _), fun a w R => nqk (R.val 13 rfl rfl rfl (by kernel_rfl)) (Tryd.underlying3) rfl, fun a w R => mv (R.val 14 rfl rfl rfl (by kernel_rfl)), fun a w R => True.intro, fun a w R => True.intro, fun a w R => True.intro, fun a w R => True.intro, fun a w R => True.intro, fun a w R => pickf (R.val 15 rfl rfl rfl (by kernel_rfl)) (R.goneS 20 rfl rfl rfl (by kernel_rfl)), fun a w R => pickn (R.val 11 rfl rfl rfl (by kernel_rfl)) (R.val 21 rfl rfl rfl (by kernel_rfl)), trivial⟩ (fun a1 W6 I => ?_)
      rw [I.act [(68, (.int .i64 0)), (69, (.bool false)), (70, (.bool false)), (71, (.int .i64 0)), (72, (.bool false)), (73, (.bool false)), (74, (.bool false)), (75, (.agg #[.int .u64 (L0 z0), .int .u64 (L1 z0), .int .u64 (L2 z0), .int .u64 (L3 z0)])), (76, (.agg #[.int .u64 (L0 z0), .int .u64 (L1 z0), .int .u64 (L2 z0), .int .u64 (L3 z0)])), (77, (.bool false)), (78, (.bool false)), (79, (.bool false)), (80, (.agg #[.int .u64 (L0 r), .int .u64 (L1 r), .int .u64 (L2 r), .int .u64 (L3 r)])), (81, (.int .i64 (0))), (82, (.bool false)), (83, (.bool false)), (84, undef), (85, undef), (86, undef), (87, undef), (88, undef), (89, (.bool false)), (90, (.bool false))]
        ⟨I.val 0 rfl rfl rfl, I.val 1 rfl rfl rfl, I.val 2 rfl rfl rfl, I.val 3 rfl rfl rfl, I.val 4 rfl rfl rfl, I.val 5 rfl rfl rfl, I.val 6 rfl rfl rfl, I.val 7 rfl rfl rfl, I.val 8 rfl rfl rfl, I.val 9 rfl rfl rfl, I.val 10 rfl rfl rfl, I.val 11 rfl rfl rfl, I.val 12 rfl rfl rfl, I.val 13 rfl rfl rfl, I.val 14 rfl rfl rfl, I.val 15 rfl rfl rfl, I.gone 16 rfl rfl rfl, I.gone 17 rfl rfl rfl, I.gone 18 rfl rfl rfl, I.gone 19 rfl rfl rfl, I.gone 20 rfl rfl rfl, I.val 21 rfl rfl rfl, I.val 22 rfl rfl rfl, trivial⟩ rfl]
      have sW6 : W5.heap.size ≤ W6.heap.size := I.below.size
      replace OA := I.keep OA.drawn (by repeat' (first | exact trivial | refine Off.v ?_ | refine Off.k ?_ | refine Off.b ?_ | refine Off.p ?_ | refine Off.s ?_ ?_ | omega))
      replace OB := I.keep OB.drawn (by repeat' (first | exact trivial | refine Off.v ?_ | refine Off.k ?_ | refine Off.b ?_ | refine Off.p ?_ | refine Off.s ?_ ?_ | omega))
      replace o6 := I.keep o6.drawn (by repeat' (first | exact trivial | refine Off.v ?_ | refine Off.k ?_ | refine Off.b ?_ | refine Off.p ?_ | refine Off.s ?_ ?_ | omega))
      replace o10 := I.keep o10.drawn (by repeat' (first | exact trivial | refine Off.v ?_ | refine Off.k ?_ | refine Off.b ?_ | refine Off.p ?_ | refine Off.s ?_ ?_ | omega))
      have hW6 : Below w.heap.size w W6 := then_ hW5.drew I.below hW5.size
      clear I
      simp only [List.foldl_cons, List.foldl_nil, List.setIfInBounds_toArray, List.set_cons_zero, List.set_cons_succ]
      go_upto_region 10 with fail
      refine region_memo (B := W6.heap.size) (L := .val (.agg #[.int .u64 (L0 r), .int .u64 (L1 r), .int .u64 (L2 r), .int .u64 (L3 r)]) :: .val (.agg #[.int .u64 (L0 z1), .int .u64 (L1 z1), .int .u64 (L2 z1), .int .u64 (L3 z1)]) :: .blk 24 4 :: .blk 24 4 :: .put 12 24 #[.int .u64 (L0 r), .int .u64 (L1 r), .int .u64 (L2 r), .int .u64 (L3 r)] :: .put 13 24 #[.int .u64 (L0 z1), .int .u64 (L1 z1), .int .u64 (L2 z1), .int .u64 (L3 z1)] :: []) (by kernel_rfl) (by kernel_rfl) (Nat.le_refl _) ((by exact trivial))
        ⟨fun a w R => ld24 (R.slot 6 rfl) (R.keep o6.drawn (by repeat' (first | exact trivial | refine Off.v ?_ | refine Off.k ?_ | refine Off.b ?_ | refine Off.p ?_ | refine Off.s ?_ ?_ | omega))), fun a w R => ld24 (R.slot 3 rfl) (R.keep OB.drawn (by repeat' (first | exact trivial | refine Off.v ?_ | refine Off.k ?_ | refine Off.b ?_ | refine Off.p ?_ | refine Off.s ?_ ?_ | omega))), fun a w R => al24, fun a w R => al24, fun a w R => sb24 (R.dep 2 rfl (by kernel_rfl)) (R.val 0 rfl rfl rfl (by kernel_rfl)), fun a w R => sb24 (R.dep 3 rfl (by kernel_rfl)) (R.val 1 rfl rfl rfl (by kernel_rfl)), trivial⟩ (fun a1 W7 I => ?_)
      obtain ⟨b12, e12, l12, o12⟩ := I.put 4 rfl rfl
      obtain ⟨b13, e13, l13, o13⟩ := I.put 5 rfl rfl
      have n12_13 := I.far 2 3 rfl rfl (by omega) rfl rfl rfl rfl e12 e13
      rw [I.act [(91, (.agg #[.int .u64 (L0 r), .int .u64 (L1 r), .int .u64 (L2 r), .int .u64 (L3 r)])), (92, (.agg #[.int .u64 (L0 z1), .int .u64 (L1 z1), .int .u64 (L2 z1), .int .u64 (L3 z1)])), (12, .pointer (some ⟨b12, 0, none⟩)), (13, .pointer (some ⟨b13, 0, none⟩))]
        ⟨I.val 0 rfl rfl rfl, I.val 1 rfl rfl rfl, e12, e13, trivial⟩ rfl]
      change W6.heap.size ≤ b12 at l12
      change W6.heap.size ≤ b13 at l13
      have sW7 : W6.heap.size ≤ W7.heap.size := I.below.size
      replace OB := I.keep OB.drawn (by repeat' (first | exact trivial | refine Off.v ?_ | refine Off.k ?_ | refine Off.b ?_ | refine Off.p ?_ | refine Off.s ?_ ?_ | omega))
      replace o6 := I.keep o6.drawn (by repeat' (first | exact trivial | refine Off.v ?_ | refine Off.k ?_ | refine Off.b ?_ | refine Off.p ?_ | refine Off.s ?_ ?_ | omega))
      have hW7 : Below w.heap.size w W7 := then_ hW6.drew I.below hW6.size
      clear e12 e13
      clear I
      simp only [List.foldl_cons, List.foldl_nil, List.setIfInBounds_toArray, List.set_cons_zero, List.set_cons_succ]
      go_upto_region 11 with fail
      have z0' := hW6.size
      have l12' : w.heap.size ≤ b12 := Nat.le_trans z0' l12
      have l13' : w.heap.size ≤ b13 := Nat.le_trans z0' l13
      clear z0'
      refine region_memo_f (B := W7.heap.size) (L := .val (.agg #[.int .u64 (L0 r), .int .u64 (L1 r), .int .u64 (L2 r), .int .u64 (L3 r)]) :: .val (.int .i64 (0)) :: .val (.bool false) :: []) (by kernel_rfl) (Nat.le_refl _) ((by exact trivial))
        ⟨fun a w R => ld24 (R.slot 12 rfl) (R.keep o12 (by repeat' (first | exact trivial | refine Off.v ?_ | refine Off.k ?_ | refine Off.b ?_ | refine Off.p ?_ | refine Off.s ?_ ?_ | omega))), fun a w R => cl1 en_Sign (R.val 0 rfl rfl rfl (by kernel_rfl)) (SR.out _), fun a w R => gtk (R.val 1 rfl rfl rfl (by kernel_rfl)) (Tryd.underlying3) rfl, trivial⟩ (fun a1 W8 I => ?_)
      rw [I.act [(93, (.agg #[.int .u64 (L0 r), .int .u64 (L1 r), .int .u64 (L2 r), .int .u64 (L3 r)])), (94, (.int .i64 (0))), (95, (.bool false))]
        ⟨I.val 0 rfl rfl rfl, I.val 1 rfl rfl rfl, I.val 2 rfl rfl rfl, trivial⟩ rfl]
      have sW8 : W7.heap.size ≤ W8.heap.size := I.below.size
      replace o12 := I.keep o12 (by repeat' (first | exact trivial | refine Off.v ?_ | refine Off.k ?_ | refine Off.b ?_ | refine Off.p ?_ | refine Off.s ?_ ?_ | omega))
      replace o13 := I.keep o13 (by repeat' (first | exact trivial | refine Off.v ?_ | refine Off.k ?_ | refine Off.b ?_ | refine Off.p ?_ | refine Off.s ?_ ?_ | omega))
      have hW8 : Below w.heap.size w W8 := then_ hW7 I.below hW7.size
      clear I
      simp only [List.foldl_cons, List.foldl_nil, List.setIfInBounds_toArray, List.set_cons_zero, List.set_cons_succ]
      go_upto_region 13 with fail
      refine region_memo_f (B := W8.heap.size) (L := .val (.agg #[.int .u64 (L0 z1), .int .u64 (L1 z1), .int .u64 (L2 z1), .int .u64 (L3 z1)]) :: .val (.int .i64 (1)) :: .val (.bool true) :: []) (by kernel_rfl) (Nat.le_refl _) ((by exact trivial))
        ⟨fun a w R => ld24 (R.slot 13 rfl) (R.keep o13 (by repeat' (first | exact trivial | refine Off.v ?_ | refine Off.k ?_ | refine Off.b ?_ | refine Off.p ?_ | refine Off.s ?_ ?_ | omega))), fun a w R => cl1 en_Sign (R.val 0 rfl rfl rfl (by kernel_rfl)) (SB.out _), fun a w R => gtk (R.val 1 rfl rfl rfl (by kernel_rfl)) (Tryd.underlying3) rfl, trivial⟩ (fun a1 W9 I => ?_)
      rw [I.act [(101, (.agg #[.int .u64 (L0 z1), .int .u64 (L1 z1), .int .u64 (L2 z1), .int .u64 (L3 z1)])), (102, (.int .i64 (1))), (103, (.bool true))]
        ⟨I.val 0 rfl rfl rfl, I.val 1 rfl rfl rfl, I.val 2 rfl rfl rfl, trivial⟩ rfl]
      have sW9 : W8.heap.size ≤ W9.heap.size := I.below.size
      replace o12 := I.keep o12 (by repeat' (first | exact trivial | refine Off.v ?_ | refine Off.k ?_ | refine Off.b ?_ | refine Off.p ?_ | refine Off.s ?_ ?_ | omega))
      replace o13 := I.keep o13 (by repeat' (first | exact trivial | refine Off.v ?_ | refine Off.k ?_ | refine Off.b ?_ | refine Off.p ?_ | refine Off.s ?_ ?_ | omega))
      have hW9 : Below w.heap.size w W9 := then_ hW8 I.below hW8.size
      clear I
      simp only [List.foldl_cons, List.foldl_nil, List.setIfInBounds_toArray, List.set_cons_zero, List.set_cons_succ]
      go_upto_region 14 with fail
      refine region_memo_f (B := w.heap.size) (L := .val (.agg #[.int .u64 (L0 z1), .int .u64 (L1 z1), .int .u64 (L2 z1), .int .u64 (L3 z1)]) :: .val (.tuple #[(.agg #[.int .u64 (L0 (0 - z1)), .int .u64 (L1 (0 - z1)), .int .u64 (L2 (0 - z1)), .int .u64 (L3 (0 - z1))]), (.int .i64 0)]) :: .val (.tuple #[(.agg #[.int .u64 (L0 (0 - z1)), .int .u64 (L1 (0 - z1)), .int .u64 (L2 (0 - z1)), .int .u64 (L3 (0 - z1))]), (.int .i64 0)]) :: .val (.agg #[.int .u64 (L0 (0 - z1)), .int .u64 (L1 (0 - z1)), .int .u64 (L2 (0 - z1)), .int .u64 (L3 (0 - z1))]) :: .val (.int .i64 0) :: .sto (b13) 24 #[.int .u64 (L0 (0 - z1)), .int .u64 (L1 (0 - z1)), .int .u64 (L2 (0 - z1)), .int .u64 (L3 (0 - z1))] :: []) (by kernel_rfl) (hW9.size) (Olds.v (Olds.v (Olds.v (Olds.v (Olds.v (Olds.s (by omega) o13.in_ (by repeat' (first | exact trivial | refine Off.v ?_ | refine Off.k ?_ | refine Off.b ?_ | refine Off.p ?_ | refine Off.s ?_ ?_ | omega)) (trivial)))))))
        ⟨fun a w R => ld24 (R.slot 13 rfl) (R.old 5 rfl rfl (by kernel_rfl) o13), fun a w R => cl1 en_Neg (R.val 0 rfl rfl rfl (by kernel_rfl)) (NB.out _), fun a w R => mv (R.val 1 rfl rfl rfl (by kernel_rfl)), fun a w R => ex0 (R.val 2 rfl rfl rfl (by kernel_rfl)), fun a w R => ex1 (R.val 2 rfl rfl rfl (by kernel_rfl)), fun a w R => so24 (R.slot 13 rfl) (R.own rfl o13) rfl (R.val 3 rfl rfl rfl (by kernel_rfl)), trivial⟩ (fun a1 W10 I => ?_)
      rw [I.act [(105, (.agg #[.int .u64 (L0 z1), .int .u64 (L1 z1), .int .u64 (L2 z1), .int .u64 (L3 z1)])), (106, (.tuple #[(.agg #[.int .u64 (L0 (0 - z1)), .int .u64 (L1 (0 - z1)), .int .u64 (L2 (0 - z1)), .int .u64 (L3 (0 - z1))]), (.int .i64 0)])), (104, (.tuple #[(.agg #[.int .u64 (L0 (0 - z1)), .int .u64 (L1 (0 - z1)), .int .u64 (L2 (0 - z1)), .int .u64 (L3 (0 - z1))]), (.int .i64 0)])), (107, (.agg #[.int .u64 (L0 (0 - z1)), .int .u64 (L1 (0 - z1)), .int .u64 (L2 (0 - z1)), .int .u64 (L3 (0 - z1))])), (108, (.int .i64 0))]
        ⟨I.val 0 rfl rfl rfl, I.val 1 rfl rfl rfl, I.val 2 rfl rfl rfl, I.val 3 rfl rfl rfl, I.val 4 rfl rfl rfl, trivial⟩ rfl]
      have sW10 : W9.heap.size ≤ W10.heap.size := I.below.size
      replace o12 := I.keep o12 (by repeat' (first | exact trivial | refine Off.v ?_ | refine Off.k ?_ | refine Off.b ?_ | refine Off.p ?_ | refine Off.s ?_ ?_ | omega))
      replace o13 := I.sto 5 rfl rfl
      have hW10 : Below w.heap.size w W10 := hW9.trans I.below
      clear I
      simp only [List.foldl_cons, List.foldl_nil, List.setIfInBounds_toArray, List.set_cons_zero, List.set_cons_succ]
      go_upto_region 15 with fail
      have HP : Pow10 W10 := hp.keep hW10
      refine region_memo_f (B := W10.heap.size) (L := .val (.bool true) :: .val (.bool true) :: .val (.agg #[.int .u64 (L0 (0 - z1)), .int .u64 (L1 (0 - z1)), .int .u64 (L2 (0 - z1)), .int .u64 (L3 (0 - z1))]) :: .val (.agg #[.int .u64 (L0 r), .int .u64 (L1 r), .int .u64 (L2 r), .int .u64 (L3 r)]) :: .val (.int .i64 (-1)) :: .val (.bool true) :: .val (.bool true) :: .val (.bool true) :: []) (by kernel_rfl) (Nat.le_refl _) ((by exact trivial))
        ⟨fun a w R => cl0 en_awake (awake_any _ (HP.keep R.below)), fun a w R => mv (R.val 0 rfl rfl rfl (by kernel_rfl)), fun a w R => ld24 (R.slot 13 rfl) (R.keep o13 (by repeat' (first | exact trivial | refine Off.v ?_ | refine Off.k ?_ | refine Off.b ?_ | refine Off.p ?_ | refine Off.s ?_ ?_ | omega))), fun a w R => ld24 (R.slot 12 rfl) (R.keep o12 (by repeat' (first | exact trivial | refine Off.v ?_ | refine Off.k ?_ | refine Off.b ?_ | refine Off.p ?_ | refine Off.s ?_ ?_ | omega))), fun a w R => cl2 en_Cmp (R.val 2 rfl rfl rfl (by kernel_rfl)) (R.val 3 rfl rfl rfl (by kernel_rfl)) (CM.out _), fun a w R => ltk (R.val 4 rfl rfl rfl (by kernel_rfl)) (Tryd.underlying3) rfl, fun a w R => pickt (R.val 1 rfl rfl rfl (by kernel_rfl)) (R.val 5 rfl rfl rfl (by kernel_rfl)), fun a w R => asg (R.val 6 rfl rfl rfl (by kernel_rfl)), trivial⟩ (fun a1 W11 I => ?_)
      rw [I.act [(109, (.bool true)), (110, (.bool true)), (111, (.agg #[.int .u64 (L0 (0 - z1)), .int .u64 (L1 (0 - z1)), .int .u64 (L2 (0 - z1)), .int .u64 (L3 (0 - z1))])), (112, (.agg #[.int .u64 (L0 r), .int .u64 (L1 r), .int .u64 (L2 r), .int .u64 (L3 r)])), (113, (.int .i64 (-1))), (114, (.bool true)), (115, (.bool true)), (4, (.bool true))]
        ⟨I.val 0 rfl rfl rfl, I.val 1 rfl rfl rfl, I.val 2 rfl rfl rfl, I.val 3 rfl rfl rfl, I.val 4 rfl rfl rfl, I.val 5 rfl rfl rfl, I.val 6 rfl rfl rfl, I.val 7 rfl rfl rfl, trivial⟩ rfl]
      have sW11 : W10.heap.size ≤ W11.heap.size := I.below.size
      replace o12 := I.keep o12 (by repeat' (first | exact trivial | refine Off.v ?_ | refine Off.k ?_ | refine Off.b ?_ | refine Off.p ?_ | refine Off.s ?_ ?_ | omega))
      replace o13 := I.keep o13 (by repeat' (first | exact trivial | refine Off.v ?_ | refine Off.k ?_ | refine Off.b ?_ | refine Off.p ?_ | refine Off.s ?_ ?_ | omega))
      have hW11 : Below w.heap.size w W11 := then_ hW10 I.below hW10.size
      clear I
      simp only [List.foldl_cons, List.foldl_nil, List.setIfInBounds_toArray, List.set_cons_zero, List.set_cons_succ]
      go_wp2
      go_ret
      exact ⟨rfl, hW11⟩
    · have SR1 := fun w => sign_b r fr w
      rw [show sgnZ r = 0 by unfold sgnZ; split <;> (try split) <;> omega] at SR1
      have SR := Lib.hid SR1
      have SB1 := fun w => sign_b z1 f1 w
      rw [show sgnZ z1 = -1 by unfold sgnZ; split <;> (try split) <;> omega] at SB1
      have SB := Lib.hid SB1
      have CM1 := fun w => Cmp_any z1 r f1 fr w
      rw [show cmpZ z1 r = -1 by unfold cmpZ; rw [if_pos (by omega)]] at CM1
      have CM := Lib.hid CM1
      clear CM1 SR1 SB1 fr f0 f1 r1 r2 r3
      refine region_memo (B := W5.heap.size) (L := .val (.int .i64 0) :: .val (.bool false) :: .val (.bool false) :: .val (.int .i64 0) :: .val (.bool false) :: .val (.bool false) :: .val (.bool false) :: .val (.agg #[.int .u64 (L0 z0), .int .u64 (L1 z0), .int .u64 (L2 z0), .int .u64 (L3 z0)]) :: .val (.agg #[.int .u64 (L0 z0), .int .u64 (L1 z0), .int .u64 (L2 z0), .int .u64 (L3 z0)]) :: .val (.bool false) :: .val (.bool false) :: .val (.bool false) :: .val (.agg #[.int .u64 (L0 r), .int .u64 (L1 r), .int .u64 (L2 r), .int .u64 (L3 r)]) :: .val (.int .i64 (0)) :: .val (.bool false) :: .val (.bool false) :: .skip :: .skip :: .skip :: .skip :: .skip :: .val (.bool false) :: .val (.bool false) :: []) (by kernel_rfl) (by kernel_rfl) (Nat.le_refl _) ((by exact trivial))
        ⟨fun a w R => mv (R.slot 9 rfl), fun a w R => nqk (R.val 0 rfl rfl rfl (by kernel_rfl)) (Tryd.underlying25) rfl, fun a w R => mv (R.val 1 rfl rfl rfl (by kernel_rfl)), fun a w R => mv (R.slot 11 rfl), fun a w R => nqk (R.val 3 rfl rfl rfl (by kernel_rfl)) (Tryd.underlying25) rfl, fun a w R => pickn (R.val 2 rfl rfl rfl (by kernel_rfl)) (R.val 4 rfl rfl rfl (by kernel_rfl)), fun a w R => mv (R.val 5 rfl rfl rfl (by kernel_rfl)), fun a w R => ld24 (R.slot 10 rfl) (R.keep o10.drawn (by repeat' (first | exact trivial | refine Off.v ?_ | refine Off.k ?_ | refine Off.b ?_ | refine Off.p ?_ | refine Off.s ?_ ?_ | omega))), fun a w R => ld24 (R.slot 2 rfl) (R.keep OA.drawn (by repeat' (first | exact trivial | refine Off.v ?_ | refine Off.k ?_ | refine Off.b ?_ | refine Off.p ?_ | refine Off.s ?_ ?_ | omega))), fun a w R => nqw (R.val 7 rfl rfl rfl (by kernel_rfl)) (R.val 8 rfl rfl rfl (by kernel_rfl)) (eq_i z0), fun a w R => pickn (R.val 6 rfl rfl rfl (by kernel_rfl)) (R.val 9 rfl rfl rfl (by kernel_rfl)), fun a w R => mv (R.val 10 rfl rfl rfl (by kernel_rfl)), fun a w R => ld24 (R.slot 6 rfl) (R.keep o6.drawn (by repeat' (first | exact trivial | refine Off.v ?_ | refine Off.k ?_ | refine Off.b ?_ | refine Off.p ?_ | refine Off.s ?_ ?_ | omega))), fun a w R => cl1 en_Sign (R.val 12 rfl rfl rfl (by kernel_rfl)) (SR.out _), fun a w R => nqk (R.val 13 rfl rfl rfl (by kernel_rfl)) (Tryd.underlying3) rfl, fun a w R => mv (R.val 14 rfl rfl rfl (by kernel_rfl)), fun a w R => True.intro, fun a w R => True.intro, fun a w R => True.intro, fun a w R => True.intro, fun a w R => True.intro, fun a w R => pickf (R.val 15 rfl rfl rfl (by kernel_rfl)) (R.goneS 20 rfl rfl rfl (by kernel_rfl)), fun a w R => pickn (R.val 11 rfl rfl rfl (by kernel_rfl)) (R.val 21 rfl rfl rfl (by kernel_rfl)), trivial⟩ (fun a1 W6 I => ?_)
      rw [I.act [(68, (.int .i64 0)), (69, (.bool false)), (70, (.bool false)), (71, (.int .i64 0)), (72, (.bool false)), (73, (.bool false)), (74, (.bool false)), (75, (.agg #[.int .u64 (L0 z0), .int .u64 (L1 z0), .int .u64 (L2 z0), .int .u64 (L3 z0)])), (76, (.agg #[.int .u64 (L0 z0), .int .u64 (L1 z0), .int .u64 (L2 z0), .int .u64 (L3 z0)])), (77, (.bool false)), (78, (.bool false)), (79, (.bool false)), (80, (.agg #[.int .u64 (L0 r), .int .u64 (L1 r), .int .u64 (L2 r), .int .u64 (L3 r)])), (81, (.int .i64 (0))), (82, (.bool false)), (83, (.bool false)), (84, undef), (85, undef), (86, undef), (87, undef), (88, undef), (89, (.bool false)), (90, (.bool false))]
        ⟨I.val 0 rfl rfl rfl, I.val 1 rfl rfl rfl, I.val 2 rfl rfl rfl, I.val 3 rfl rfl rfl, I.val 4 rfl rfl rfl, I.val 5 rfl rfl rfl, I.val 6 rfl rfl rfl, I.val 7 rfl rfl rfl, I.val 8 rfl rfl rfl, I.val 9 rfl rfl rfl, I.val 10 rfl rfl rfl, I.val 11 rfl rfl rfl, I.val 12 rfl rfl rfl, I.val 13 rfl rfl rfl, I.val 14 rfl rfl rfl, I.val 15 rfl rfl rfl, I.gone 16 rfl rfl rfl, I.gone 17 rfl rfl rfl, I.gone 18 rfl rfl rfl, I.gone 19 rfl rfl rfl, I.gone 20 rfl rfl rfl, I.val 21 rfl rfl rfl, I.val 22 rfl rfl rfl, trivial⟩ rfl]
      have sW6 : W5.heap.size ≤ W6.heap.size := I.below.size
      replace OA := I.keep OA.drawn (by repeat' (first | exact trivial | refine Off.v ?_ | refine Off.k ?_ | refine Off.b ?_ | refine Off.p ?_ | refine Off.s ?_ ?_ | omega))
      replace OB := I.keep OB.drawn (by repeat' (first | exact trivial | refine Off.v ?_ | refine Off.k ?_ | refine Off.b ?_ | refine Off.p ?_ | refine Off.s ?_ ?_ | omega))
      replace o6 := I.keep o6.drawn (by repeat' (first | exact trivial | refine Off.v ?_ | refine Off.k ?_ | refine Off.b ?_ | refine Off.p ?_ | refine Off.s ?_ ?_ | omega))
      replace o10 := I.keep o10.drawn (by repeat' (first | exact trivial | refine Off.v ?_ | refine Off.k ?_ | refine Off.b ?_ | refine Off.p ?_ | refine Off.s ?_ ?_ | omega))
      have hW6 : Below w.heap.size w W6 := then_ hW5.drew I.below hW5.size
      clear I
      simp only [List.foldl_cons, List.foldl_nil, List.setIfInBounds_toArray, List.set_cons_zero, List.set_cons_succ]
      go_upto_region 10 with fail
      refine region_memo (B := W6.heap.size) (L := .val (.agg #[.int .u64 (L0 r), .int .u64 (L1 r), .int .u64 (L2 r), .int .u64 (L3 r)]) :: .val (.agg #[.int .u64 (L0 z1), .int .u64 (L1 z1), .int .u64 (L2 z1), .int .u64 (L3 z1)]) :: .blk 24 4 :: .blk 24 4 :: .put 12 24 #[.int .u64 (L0 r), .int .u64 (L1 r), .int .u64 (L2 r), .int .u64 (L3 r)] :: .put 13 24 #[.int .u64 (L0 z1), .int .u64 (L1 z1), .int .u64 (L2 z1), .int .u64 (L3 z1)] :: []) (by kernel_rfl) (by kernel_rfl) (Nat.le_refl _) ((by exact trivial))
        ⟨fun a w R => ld24 (R.slot 6 rfl) (R.keep o6.drawn (by repeat' (first | exact trivial | refine Off.v ?_ | refine Off.k ?_ | refine Off.b ?_ | refine Off.p ?_ | refine Off.s ?_ ?_ | omega))), fun a w R => ld24 (R.slot 3 rfl) (R.keep OB.drawn (by repeat' (first | exact trivial | refine Off.v ?_ | refine Off.k ?_ | refine Off.b ?_ | refine Off.p ?_ | refine Off.s ?_ ?_ | omega))), fun a w R => al24, fun a w R => al24, fun a w R => sb24 (R.dep 2 rfl (by kernel_rfl)) (R.val 0 rfl rfl rfl (by kernel_rfl)), fun a w R => sb24 (R.dep 3 rfl (by kernel_rfl)) (R.val 1 rfl rfl rfl (by kernel_rfl)), trivial⟩ (fun a1 W7 I => ?_)
      obtain ⟨b12, e12, l12, o12⟩ := I.put 4 rfl rfl
      obtain ⟨b13, e13, l13, o13⟩ := I.put 5 rfl rfl
      have n12_13 := I.far 2 3 rfl rfl (by omega) rfl rfl rfl rfl e12 e13
      rw [I.act [(91, (.agg #[.int .u64 (L0 r), .int .u64 (L1 r), .int .u64 (L2 r), .int .u64 (L3 r)])), (92, (.agg #[.int .u64 (L0 z1), .int .u64 (L1 z1), .int .u64 (L2 z1), .int .u64 (L3 z1)])), (12, .pointer (some ⟨b12, 0, none⟩)), (13, .pointer (some ⟨b13, 0, none⟩))]
        ⟨I.val 0 rfl rfl rfl, I.val 1 rfl rfl rfl, e12, e13, trivial⟩ rfl]
      change W6.heap.size ≤ b12 at l12
      change W6.heap.size ≤ b13 at l13
      have sW7 : W6.heap.size ≤ W7.heap.size := I.below.size
      replace OB := I.keep OB.drawn (by repeat' (first | exact trivial | refine Off.v ?_ | refine Off.k ?_ | refine Off.b ?_ | refine Off.p ?_ | refine Off.s ?_ ?_ | omega))
      replace o6 := I.keep o6.drawn (by repeat' (first | exact trivial | refine Off.v ?_ | refine Off.k ?_ | refine Off.b ?_ | refine Off.p ?_ | refine Off.s ?_ ?_ | omega))
      have hW7 : Below w.heap.size w W7 := then_ hW6.drew I.below hW6.size
      clear e12 e13
      clear I
      simp only [List.foldl_cons, List.foldl_nil, List.setIfInBounds_toArray, List.set_cons_zero, List.set_cons_succ]
      go_upto_region 11 with fail
      have z0' := hW6.size
      have l12' : w.heap.size ≤ b12 := Nat.le_trans z0' l12
      have l13' : w.heap.size ≤ b13 := Nat.le_trans z0' l13
      clear z0'
      refine region_memo_f (B := W7.heap.size) (L := .val (.agg #[.int .u64 (L0 r), .int .u64 (L1 r), .int .u64 (L2 r), .int .u64 (L3 r)]) :: .val (.int .i64 (0)) :: .val (.bool false) :: []) (by kernel_rfl) (Nat.le_refl _) ((by exact trivial))
        ⟨fun a w R => ld24 (R.slot 12 rfl) (R.keep o12 (by repeat' (first | exact trivial | refine Off.v ?_ | refine Off.k ?_ | refine Off.b ?_ | refine Off.p ?_ | refine Off.s ?_ ?_ | omega))), fun a w R => cl1 en_Sign (R.val 0 rfl rfl rfl (by kernel_rfl)) (SR.out _), fun a w R => gtk (R.val 1 rfl rfl rfl (by kernel_rfl)) (Tryd.underlying3) rfl, trivial⟩ (fun a1 W8 I => ?_)
      rw [I.act [(93, (.agg #[.int .u64 (L0 r), .int .u64 (L1 r), .int .u64 (L2 r), .int .u64 (L3 r)])), (94, (.int .i64 (0))), (95, (.bool false))]
        ⟨I.val 0 rfl rfl rfl, I.val 1 rfl rfl rfl, I.val 2 rfl rfl rfl, trivial⟩ rfl]
      have sW8 : W7.heap.size ≤ W8.heap.size := I.below.size
      replace o12 := I.keep o12 (by repeat' (first | exact trivial | refine Off.v ?_ | refine Off.k ?_ | refine Off.b ?_ | refine Off.p ?_ | refine Off.s ?_ ?_ | omega))
      replace o13 := I.keep o13 (by repeat' (first | exact trivial | refine Off.v ?_ | refine Off.k ?_ | refine Off.b ?_ | refine Off.p ?_ | refine Off.s ?_ ?_ | omega))
      have hW8 : Below w.heap.size w W8 := then_ hW7 I.below hW7.size
      clear I
      simp only [List.foldl_cons, List.foldl_nil, List.setIfInBounds_toArray, List.set_cons_zero, List.set_cons_succ]
      go_upto_region 13 with fail
      refine region_memo_f (B := W8.heap.size) (L := .val (.agg #[.int .u64 (L0 z1), .int .u64 (L1 z1), .int .u64 (L2 z1), .int .u64 (L3 z1)]) :: .val (.int .i64 (-1)) :: .val (.bool false) :: []) (by kernel_rfl) (Nat.le_refl _) ((by exact trivial))
        ⟨fun a w R => ld24 (R.slot 13 rfl) (R.keep o13 (by repeat' (first | exact trivial | refine Off.v ?_ | refine Off.k ?_ | refine Off.b ?_ | refine Off.p ?_ | refine Off.s ?_ ?_ | omega))), fun a w R => cl1 en_Sign (R.val 0 rfl rfl rfl (by kernel_rfl)) (SB.out _), fun a w R => gtk (R.val 1 rfl rfl rfl (by kernel_rfl)) (Tryd.underlying3) rfl, trivial⟩ (fun a1 W9 I => ?_)
      rw [I.act [(101, (.agg #[.int .u64 (L0 z1), .int .u64 (L1 z1), .int .u64 (L2 z1), .int .u64 (L3 z1)])), (102, (.int .i64 (-1))), (103, (.bool false))]
        ⟨I.val 0 rfl rfl rfl, I.val 1 rfl rfl rfl, I.val 2 rfl rfl rfl, trivial⟩ rfl]
      have sW9 : W8.heap.size ≤ W9.heap.size := I.below.size
      replace o12 := I.keep o12 (by repeat' (first | exact trivial | refine Off.v ?_ | refine Off.k ?_ | refine Off.b ?_ | refine Off.p ?_ | refine Off.s ?_ ?_ | omega))
      replace o13 := I.keep o13 (by repeat' (first | exact trivial | refine Off.v ?_ | refine Off.k ?_ | refine Off.b ?_ | refine Off.p ?_ | refine Off.s ?_ ?_ | omega))
      have hW9 : Below w.heap.size w W9 := then_ hW8 I.below hW8.size
      clear I
      simp only [List.foldl_cons, List.foldl_nil, List.setIfInBounds_toArray, List.set_cons_zero, List.set_cons_succ]
      go_upto_region 15 with fail
      have HP : Pow10 W9 := hp.keep hW9
      refine region_memo_f (B := W9.heap.size) (L := .val (.bool true) :: .val (.bool true) :: .val (.agg #[.int .u64 (L0 z1), .int .u64 (L1 z1), .int .u64 (L2 z1), .int .u64 (L3 z1)]) :: .val (.agg #[.int .u64 (L0 r), .int .u64 (L1 r), .int .u64 (L2 r), .int .u64 (L3 r)]) :: .val (.int .i64 (-1)) :: .val (.bool true) :: .val (.bool true) :: .val (.bool true) :: []) (by kernel_rfl) (Nat.le_refl _) ((by exact trivial))
        ⟨fun a w R => cl0 en_awake (awake_any _ (HP.keep R.below)), fun a w R => mv (R.val 0 rfl rfl rfl (by kernel_rfl)), fun a w R => ld24 (R.slot 13 rfl) (R.keep o13 (by repeat' (first | exact trivial | refine Off.v ?_ | refine Off.k ?_ | refine Off.b ?_ | refine Off.p ?_ | refine Off.s ?_ ?_ | omega))), fun a w R => ld24 (R.slot 12 rfl) (R.keep o12 (by repeat' (first | exact trivial | refine Off.v ?_ | refine Off.k ?_ | refine Off.b ?_ | refine Off.p ?_ | refine Off.s ?_ ?_ | omega))), fun a w R => cl2 en_Cmp (R.val 2 rfl rfl rfl (by kernel_rfl)) (R.val 3 rfl rfl rfl (by kernel_rfl)) (CM.out _), fun a w R => ltk (R.val 4 rfl rfl rfl (by kernel_rfl)) (Tryd.underlying3) rfl, fun a w R => pickt (R.val 1 rfl rfl rfl (by kernel_rfl)) (R.val 5 rfl rfl rfl (by kernel_rfl)), fun a w R => asg (R.val 6 rfl rfl rfl (by kernel_rfl)), trivial⟩ (fun a1 W10 I => ?_)
      rw [I.act [(109, (.bool true)), (110, (.bool true)), (111, (.agg #[.int .u64 (L0 z1), .int .u64 (L1 z1), .int .u64 (L2 z1), .int .u64 (L3 z1)])), (112, (.agg #[.int .u64 (L0 r), .int .u64 (L1 r), .int .u64 (L2 r), .int .u64 (L3 r)])), (113, (.int .i64 (-1))), (114, (.bool true)), (115, (.bool true)), (4, (.bool true))]
        ⟨I.val 0 rfl rfl rfl, I.val 1 rfl rfl rfl, I.val 2 rfl rfl rfl, I.val 3 rfl rfl rfl, I.val 4 rfl rfl rfl, I.val 5 rfl rfl rfl, I.val 6 rfl rfl rfl, I.val 7 rfl rfl rfl, trivial⟩ rfl]
      have sW10 : W9.heap.size ≤ W10.heap.size := I.below.size
      replace o12 := I.keep o12 (by repeat' (first | exact trivial | refine Off.v ?_ | refine Off.k ?_ | refine Off.b ?_ | refine Off.p ?_ | refine Off.s ?_ ?_ | omega))
      replace o13 := I.keep o13 (by repeat' (first | exact trivial | refine Off.v ?_ | refine Off.k ?_ | refine Off.b ?_ | refine Off.p ?_ | refine Off.s ?_ ?_ | omega))
      have hW10 : Below w.heap.size w W10 := then_ hW9 I.below hW9.size
      clear I
      simp only [List.foldl_cons, List.foldl_nil, List.setIfInBounds_toArray, List.set_cons_zero, List.set_cons_succ]
      go_wp2
      go_ret
      exact ⟨rfl, hW10⟩
    · have SR1 := fun w => sign_b r fr w
      rw [show sgnZ r = -1 by unfold sgnZ; split <;> (try split) <;> omega] at SR1
      have SR := Lib.hid SR1
      have SA1 := fun w => sign_b z0 f0 w
      rw [show sgnZ z0 = -1 by unfold sgnZ; split <;> (try split) <;> omega] at SA1
      have SA := Lib.hid SA1
      clear SA1
      have SB1 := fun w => sign_b z1 f1 w
      rw [show sgnZ z1 = 1 by unfold sgnZ; split <;> (try split) <;> omega] at SB1
      have SB := Lib.hid SB1
      have fy : Fit (0 - z1) := by obtain ⟨_, _⟩ := f1; exact ⟨by omega, by omega⟩
      have NB := Lib.hid (fun w => neg_fit z1 f1 fy w)
      have CM1 := fun w => Cmp_any (0 - z1) r fy fr w
      rw [show cmpZ (0 - z1) r = -1 by unfold cmpZ; rw [if_pos (by omega)]] at CM1
      have CM := Lib.hid CM1
      clear CM1 SR1 SB1 fr f0 f1 r1 r2 r3 fy
      refine region_memo (B := W5.heap.size) (L := .val (.int .i64 0) :: .val (.bool false) :: .val (.bool false) :: .val (.int .i64 0) :: .val (.bool false) :: .val (.bool false) :: .val (.bool false) :: .val (.agg #[.int .u64 (L0 z0), .int .u64 (L1 z0), .int .u64 (L2 z0), .int .u64 (L3 z0)]) :: .val (.agg #[.int .u64 (L0 z0), .int .u64 (L1 z0), .int .u64 (L2 z0), .int .u64 (L3 z0)]) :: .val (.bool false) :: .val (.bool false) :: .val (.bool false) :: .val (.agg #[.int .u64 (L0 r), .int .u64 (L1 r), .int .u64 (L2 r), .int .u64 (L3 r)]) :: .val (.int .i64 (-1)) :: .val (.bool true) :: .val (.bool true) :: .val (.agg #[.int .u64 (L0 r), .int .u64 (L1 r), .int .u64 (L2 r), .int .u64 (L3 r)]) :: .val (.int .i64 (-1)) :: .val (.agg #[.int .u64 (L0 z0), .int .u64 (L1 z0), .int .u64 (L2 z0), .int .u64 (L3 z0)]) :: .val (.int .i64 (-1)) :: .val (.bool false) :: .val (.bool false) :: .val (.bool false) :: []) (by kernel_rfl) (by kernel_rfl) (Nat.le_refl _) ((by exact trivial))
        ⟨fun a w R => mv (R.slot 9 rfl), fun a w R => nqk (R.val 0 rfl rfl rfl (by kernel_rfl)) (Tryd.underlying25) rfl, fun a w R => mv (R.val 1 rfl rfl rfl (by kernel_rfl)), fun a w R => mv (R.slot 11 rfl), fun a w R => nqk (R.val 3 rfl rfl rfl (by kernel_rfl)) (Tryd.underlying25) rfl, fun a w R => pickn (R.val 2 rfl rfl rfl (by kernel_rfl)) (R.val 4 rfl rfl rfl (by kernel_rfl)), fun a w R => mv (R.val 5 rfl rfl rfl (by kernel_rfl)), fun a w R => ld24 (R.slot 10 rfl) (R.keep o10.drawn (by repeat' (first | exact trivial | refine Off.v ?_ | refine Off.k ?_ | refine Off.b ?_ | refine Off.p ?_ | refine Off.s ?_ ?_ | omega))), fun a w R => ld24 (R.slot 2 rfl) (R.keep OA.drawn (by repeat' (first | exact trivial | refine Off.v ?_ | refine Off.k ?_ | refine Off.b ?_ | refine Off.p ?_ | refine Off.s ?_ ?_ | omega))), fun a w R => nqw (R.val 7 rfl rfl rfl (by kernel_rfl)) (R.val 8 rfl rfl rfl (by kernel_rfl)) (eq_i z0), fun a w R => pickn (R.val 6 rfl rfl rfl (by kernel_rfl)) (R.val 9 rfl rfl rfl (by kernel_rfl)), fun a w R => mv (R.val 10 rfl rfl rfl (by kernel_rfl)), fun a w R => ld24 (R.slot 6 rfl) (R.keep o6.drawn (by repeat' (first | exact trivial | refine Off.v ?_ | refine Off.k ?_ | refine Off.b ?_ | refine Off.p ?_ | refine Off.s ?_ ?_ | omega))), fun a w R => cl1 en_Sign (R.val 12 rfl rfl rfl (by kernel_rfl)) (SR.out _), fun a w R => nqk (R.val 13 rfl rfl rfl (by kernel_rfl)) (Tryd.underlying3) rfl, fun a w R => mv (R.val 14 rfl rfl rfl (by kernel_rfl)), fun a w R => ld24 (R.slot 6 rfl) (R.keep o6.drawn (by repeat' (first | exact trivial | refine Off.v ?_ | refine Off.k ?_ | refine Off.b ?_ | refine Off.p ?_ | refine Off.s ?_ ?_ | omega))), fun a w R => cl1 en_Sign (R.val 16 rfl rfl rfl (by kernel_rfl)) (SR.out _), fun a w R => ld24 (R.slot 2 rfl) (R.keep OA.drawn (by repeat' (first | exact trivial | refine Off.v ?_ | refine Off.k ?_ | refine Off.b ?_ | refine Off.p ?_ | refine Off.s ?_ ?_ | omega))), fun a w R => cl1 en_Sign (R.val 18 rfl rfl rfl (by kernel_rfl)) (SA.out _), fun a w R => nqi (R.val 17 rfl rfl rfl (by kernel_rfl)) (R.val 19 rfl rfl rfl (by kernel_rfl)) (Tryd.underlying3) rfl, fun a w R => pickt (R.val 15 rfl rfl rfl (by kernel_rfl)) (R.val 20 rfl rfl rfl (by kernel_rfl)), fun a w R => pickn (R.val 11 rfl rfl rfl (by kernel_rfl)) (R.val 21 rfl rfl rfl (by kernel_rfl)), trivial⟩ (fun a1 W6 I => ?_)
      rw [I.act [(68, (.int .i64 0)), (69, (.bool false)), (70, (.bool false)), (71, (.int .i64 0)), (72, (.bool false)), (73, (.bool false)), (74, (.bool false)), (75, (.agg #[.int .u64 (L0 z0), .int .u64 (L1 z0), .int .u64 (L2 z0), .int .u64 (L3 z0)])), (76, (.agg #[.int .u64 (L0 z0), .int .u64 (L1 z0), .int .u64 (L2 z0), .int .u64 (L3 z0)])), (77, (.bool false)), (78, (.bool false)), (79, (.bool false)), (80, (.agg #[.int .u64 (L0 r), .int .u64 (L1 r), .int .u64 (L2 r), .int .u64 (L3 r)])), (81, (.int .i64 (-1))), (82, (.bool true)), (83, (.bool true)), (84, (.agg #[.int .u64 (L0 r), .int .u64 (L1 r), .int .u64 (L2 r), .int .u64 (L3 r)])), (85, (.int .i64 (-1))), (86, (.agg #[.int .u64 (L0 z0), .int .u64 (L1 z0), .int .u64 (L2 z0), .int .u64 (L3 z0)])), (87, (.int .i64 (-1))), (88, (.bool false)), (89, (.bool false)), (90, (.bool false))]
        ⟨I.val 0 rfl rfl rfl, I.val 1 rfl rfl rfl, I.val 2 rfl rfl rfl, I.val 3 rfl rfl rfl, I.val 4 rfl rfl rfl, I.val 5 rfl rfl rfl, I.val 6 rfl rfl rfl, I.val 7 rfl rfl rfl, I.val 8 rfl rfl rfl, I.val 9 rfl rfl rfl, I.val 10 rfl rfl rfl, I.val 11 rfl rfl rfl, I.val 12 rfl rfl rfl, I.val 13 rfl rfl rfl, I.val 14 rfl rfl rfl, I.val 15 rfl rfl rfl, I.val 16 rfl rfl rfl, I.val 17 rfl rfl rfl, I.val 18 rfl rfl rfl, I.val 19 rfl rfl rfl, I.val 20 rfl rfl rfl, I.val 21 rfl rfl rfl, I.val 22 rfl rfl rfl, trivial⟩ rfl]
      have sW6 : W5.heap.size ≤ W6.heap.size := I.below.size
      replace OA := I.keep OA.drawn (by repeat' (first | exact trivial | refine Off.v ?_ | refine Off.k ?_ | refine Off.b ?_ | refine Off.p ?_ | refine Off.s ?_ ?_ | omega))
      replace OB := I.keep OB.drawn (by repeat' (first | exact trivial | refine Off.v ?_ | refine Off.k ?_ | refine Off.b ?_ | refine Off.p ?_ | refine Off.s ?_ ?_ | omega))
      replace o6 := I.keep o6.drawn (by repeat' (first | exact trivial | refine Off.v ?_ | refine Off.k ?_ | refine Off.b ?_ | refine Off.p ?_ | refine Off.s ?_ ?_ | omega))
      replace o10 := I.keep o10.drawn (by repeat' (first | exact trivial | refine Off.v ?_ | refine Off.k ?_ | refine Off.b ?_ | refine Off.p ?_ | refine Off.s ?_ ?_ | omega))
      have hW6 : Below w.heap.size w W6 := then_ hW5.drew I.below hW5.size
      clear I
      simp only [List.foldl_cons, List.foldl_nil, List.setIfInBounds_toArray, List.set_cons_zero, List.set_cons_succ]
      go_upto_region 10 with fail
      refine region_memo (B := W6.heap.size) (L := .val (.agg #[.int .u64 (L0 r), .int .u64 (L1 r), .int .u64 (L2 r), .int .u64 (L3 r)]) :: .val (.agg #[.int .u64 (L0 z1), .int .u64 (L1 z1), .int .u64 (L2 z1), .int .u64 (L3 z1)]) :: .blk 24 4 :: .blk 24 4 :: .put 12 24 #[.int .u64 (L0 r), .int .u64 (L1 r), .int .u64 (L2 r), .int .u64 (L3 r)] :: .put 13 24 #[.int .u64 (L0 z1), .int .u64 (L1 z1), .int .u64 (L2 z1), .int .u64 (L3 z1)] :: []) (by kernel_rfl) (by kernel_rfl) (Nat.le_refl _) ((by exact trivial))
        ⟨fun a w R => ld24 (R.slot 6 rfl) (R.keep o6.drawn (by repeat' (first | exact trivial | refine Off.v ?_ | refine Off.k ?_ | refine Off.b ?_ | refine Off.p ?_ | refine Off.s ?_ ?_ | omega))), fun a w R => ld24 (R.slot 3 rfl) (R.keep OB.drawn (by repeat' (first | exact trivial | refine Off.v ?_ | refine Off.k ?_ | refine Off.b ?_ | refine Off.p ?_ | refine Off.s ?_ ?_ | omega))), fun a w R => al24, fun a w R => al24, fun a w R => sb24 (R.dep 2 rfl (by kernel_rfl)) (R.val 0 rfl rfl rfl (by kernel_rfl)), fun a w R => sb24 (R.dep 3 rfl (by kernel_rfl)) (R.val 1 rfl rfl rfl (by kernel_rfl)), trivial⟩ (fun a1 W7 I => ?_)
      obtain ⟨b12, e12, l12, o12⟩ := I.put 4 rfl rfl
      obtain ⟨b13, e13, l13, o13⟩ := I.put 5 rfl rfl
      have n12_13 := I.far 2 3 rfl rfl (by omega) rfl rfl rfl rfl e12 e13
      rw [I.act [(91, (.agg #[.int .u64 (L0 r), .int .u64 (L1 r), .int .u64 (L2 r), .int .u64 (L3 r)])), (92, (.agg #[.int .u64 (L0 z1), .int .u64 (L1 z1), .int .u64 (L2 z1), .int .u64 (L3 z1)])), (12, .pointer (some ⟨b12, 0, none⟩)), (13, .pointer (some ⟨b13, 0, none⟩))]
        ⟨I.val 0 rfl rfl rfl, I.val 1 rfl rfl rfl, e12, e13, trivial⟩ rfl]
      change W6.heap.size ≤ b12 at l12
      change W6.heap.size ≤ b13 at l13
      have sW7 : W6.heap.size ≤ W7.heap.size := I.below.size
      replace OB := I.keep OB.drawn (by repeat' (first | exact trivial | refine Off.v ?_ | refine Off.k ?_ | refine Off.b ?_ | refine Off.p ?_ | refine Off.s ?_ ?_ | omega))
      replace o6 := I.keep o6.drawn (by repeat' (first | exact trivial | refine Off.v ?_ | refine Off.k ?_ | refine Off.b ?_ | refine Off.p ?_ | refine Off.s ?_ ?_ | omega))
      have hW7 : Below w.heap.size w W7 := then_ hW6.drew I.below hW6.size
      clear e12 e13
      clear I
      simp only [List.foldl_cons, List.foldl_nil, List.setIfInBounds_toArray, List.set_cons_zero, List.set_cons_succ]
      go_upto_region 11 with fail
      have z0' := hW6.size
      have l12' : w.heap.size ≤ b12 := Nat.le_trans z0' l12
      have l13' : w.heap.size ≤ b13 := Nat.le_trans z0' l13
      clear z0'
      refine region_memo_f (B := W7.heap.size) (L := .val (.agg #[.int .u64 (L0 r), .int .u64 (L1 r), .int .u64 (L2 r), .int .u64 (L3 r)]) :: .val (.int .i64 (-1)) :: .val (.bool false) :: []) (by kernel_rfl) (Nat.le_refl _) ((by exact trivial))
        ⟨fun a w R => ld24 (R.slot 12 rfl) (R.keep o12 (by repeat' (first | exact trivial | refine Off.v ?_ | refine Off.k ?_ | refine Off.b ?_ | refine Off.p ?_ | refine Off.s ?_ ?_ | omega))), fun a w R => cl1 en_Sign (R.val 0 rfl rfl rfl (by kernel_rfl)) (SR.out _), fun a w R => gtk (R.val 1 rfl rfl rfl (by kernel_rfl)) (Tryd.underlying3) rfl, trivial⟩ (fun a1 W8 I => ?_)
      rw [I.act [(93, (.agg #[.int .u64 (L0 r), .int .u64 (L1 r), .int .u64 (L2 r), .int .u64 (L3 r)])), (94, (.int .i64 (-1))), (95, (.bool false))]
        ⟨I.val 0 rfl rfl rfl, I.val 1 rfl rfl rfl, I.val 2 rfl rfl rfl, trivial⟩ rfl]
      have sW8 : W7.heap.size ≤ W8.heap.size := I.below.size
      replace o12 := I.keep o12 (by repeat' (first | exact trivial | refine Off.v ?_ | refine Off.k ?_ | refine Off.b ?_ | refine Off.p ?_ | refine Off.s ?_ ?_ | omega))
      replace o13 := I.keep o13 (by repeat' (first | exact trivial | refine Off.v ?_ | refine Off.k ?_ | refine Off.b ?_ | refine Off.p ?_ | refine Off.s ?_ ?_ | omega))
      have hW8 : Below w.heap.size w W8 := then_ hW7 I.below hW7.size
      clear I
      simp only [List.foldl_cons, List.foldl_nil, List.setIfInBounds_toArray, List.set_cons_zero, List.set_cons_succ]
      go_upto_region 13 with fail
      refine region_memo_f (B := W8.heap.size) (L := .val (.agg #[.int .u64 (L0 z1), .int .u64 (L1 z1), .int .u64 (L2 z1), .int .u64 (L3 z1)]) :: .val (.int .i64 (1)) :: .val (.bool true) :: []) (by kernel_rfl) (Nat.le_refl _) ((by exact trivial))
        ⟨fun a w R => ld24 (R.slot 13 rfl) (R.keep o13 (by repeat' (first | exact trivial | refine Off.v ?_ | refine Off.k ?_ | refine Off.b ?_ | refine Off.p ?_ | refine Off.s ?_ ?_ | omega))), fun a w R => cl1 en_Sign (R.val 0 rfl rfl rfl (by kernel_rfl)) (SB.out _), fun a w R => gtk (R.val 1 rfl rfl rfl (by kernel_rfl)) (Tryd.underlying3) rfl, trivial⟩ (fun a1 W9 I => ?_)
      rw [I.act [(101, (.agg #[.int .u64 (L0 z1), .int .u64 (L1 z1), .int .u64 (L2 z1), .int .u64 (L3 z1)])), (102, (.int .i64 (1))), (103, (.bool true))]
        ⟨I.val 0 rfl rfl rfl, I.val 1 rfl rfl rfl, I.val 2 rfl rfl rfl, trivial⟩ rfl]
      have sW9 : W8.heap.size ≤ W9.heap.size := I.below.size
      replace o12 := I.keep o12 (by repeat' (first | exact trivial | refine Off.v ?_ | refine Off.k ?_ | refine Off.b ?_ | refine Off.p ?_ | refine Off.s ?_ ?_ | omega))
      replace o13 := I.keep o13 (by repeat' (first | exact trivial | refine Off.v ?_ | refine Off.k ?_ | refine Off.b ?_ | refine Off.p ?_ | refine Off.s ?_ ?_ | omega))
      have hW9 : Below w.heap.size w W9 := then_ hW8 I.below hW8.size
      clear I
      simp only [List.foldl_cons, List.foldl_nil, List.setIfInBounds_toArray, List.set_cons_zero, List.set_cons_succ]
      go_upto_region 14 with fail
      refine region_memo_f (B := w.heap.size) (L := .val (.agg #[.int .u64 (L0 z1), .int .u64 (L1 z1), .int .u64 (L2 z1), .int .u64 (L3 z1)]) :: .val (.tuple #[(.agg #[.int .u64 (L0 (0 - z1)), .int .u64 (L1 (0 - z1)), .int .u64 (L2 (0 - z1)), .int .u64 (L3 (0 - z1))]), (.int .i64 0)]) :: .val (.tuple #[(.agg #[.int .u64 (L0 (0 - z1)), .int .u64 (L1 (0 - z1)), .int .u64 (L2 (0 - z1)), .int .u64 (L3 (0 - z1))]), (.int .i64 0)]) :: .val (.agg #[.int .u64 (L0 (0 - z1)), .int .u64 (L1 (0 - z1)), .int .u64 (L2 (0 - z1)), .int .u64 (L3 (0 - z1))]) :: .val (.int .i64 0) :: .sto (b13) 24 #[.int .u64 (L0 (0 - z1)), .int .u64 (L1 (0 - z1)), .int .u64 (L2 (0 - z1)), .int .u64 (L3 (0 - z1))] :: []) (by kernel_rfl) (hW9.size) (Olds.v (Olds.v (Olds.v (Olds.v (Olds.v (Olds.s (by omega) o13.in_ (by repeat' (first | exact trivial | refine Off.v ?_ | refine Off.k ?_ | refine Off.b ?_ | refine Off.p ?_ | refine Off.s ?_ ?_ | omega)) (trivial)))))))
        ⟨fun a w R => ld24 (R.slot 13 rfl) (R.old 5 rfl rfl (by kernel_rfl) o13), fun a w R => cl1 en_Neg (R.val 0 rfl rfl rfl (by kernel_rfl)) (NB.out _), fun a w R => mv (R.val 1 rfl rfl rfl (by kernel_rfl)), fun a w R => ex0 (R.val 2 rfl rfl rfl (by kernel_rfl)), fun a w R => ex1 (R.val 2 rfl rfl rfl (by kernel_rfl)), fun a w R => so24 (R.slot 13 rfl) (R.own rfl o13) rfl (R.val 3 rfl rfl rfl (by kernel_rfl)), trivial⟩ (fun a1 W10 I => ?_)
      rw [I.act [(105, (.agg #[.int .u64 (L0 z1), .int .u64 (L1 z1), .int .u64 (L2 z1), .int .u64 (L3 z1)])), (106, (.tuple #[(.agg #[.int .u64 (L0 (0 - z1)), .int .u64 (L1 (0 - z1)), .int .u64 (L2 (0 - z1)), .int .u64 (L3 (0 - z1))]), (.int .i64 0)])), (104, (.tuple #[(.agg #[.int .u64 (L0 (0 - z1)), .int .u64 (L1 (0 - z1)), .int .u64 (L2 (0 - z1)), .int .u64 (L3 (0 - z1))]), (.int .i64 0)])), (107, (.agg #[.int .u64 (L0 (0 - z1)), .int .u64 (L1 (0 - z1)), .int .u64 (L2 (0 - z1)), .int .u64 (L3 (0 - z1))])), (108, (.int .i64 0))]
        ⟨I.val 0 rfl rfl rfl, I.val 1 rfl rfl rfl, I.val 2 rfl rfl rfl, I.val 3 rfl rfl rfl, I.val 4 rfl rfl rfl, trivial⟩ rfl]
      have sW10 : W9.heap.size ≤ W10.heap.size := I.below.size
      replace o12 := I.keep o12 (by repeat' (first | exact trivial | refine Off.v ?_ | refine Off.k ?_ | refine Off.b ?_ | refine Off.p ?_ | refine Off.s ?_ ?_ | omega))
      replace o13 := I.sto 5 rfl rfl
      have hW10 : Below w.heap.size w W10 := hW9.trans I.below
      clear I
      simp only [List.foldl_cons, List.foldl_nil, List.setIfInBounds_toArray, List.set_cons_zero, List.set_cons_succ]
      go_upto_region 15 with fail
      have HP : Pow10 W10 := hp.keep hW10
      refine region_memo_f (B := W10.heap.size) (L := .val (.bool true) :: .val (.bool true) :: .val (.agg #[.int .u64 (L0 (0 - z1)), .int .u64 (L1 (0 - z1)), .int .u64 (L2 (0 - z1)), .int .u64 (L3 (0 - z1))]) :: .val (.agg #[.int .u64 (L0 r), .int .u64 (L1 r), .int .u64 (L2 r), .int .u64 (L3 r)]) :: .val (.int .i64 (-1)) :: .val (.bool true) :: .val (.bool true) :: .val (.bool true) :: []) (by kernel_rfl) (Nat.le_refl _) ((by exact trivial))
        ⟨fun a w R => cl0 en_awake (awake_any _ (HP.keep R.below)), fun a w R => mv (R.val 0 rfl rfl rfl (by kernel_rfl)), fun a w R => ld24 (R.slot 13 rfl) (R.keep o13 (by repeat' (first | exact trivial | refine Off.v ?_ | refine Off.k ?_ | refine Off.b ?_ | refine Off.p ?_ | refine Off.s ?_ ?_ | omega))), fun a w R => ld24 (R.slot 12 rfl) (R.keep o12 (by repeat' (first | exact trivial | refine Off.v ?_ | refine Off.k ?_ | refine Off.b ?_ | refine Off.p ?_ | refine Off.s ?_ ?_ | omega))), fun a w R => cl2 en_Cmp (R.val 2 rfl rfl rfl (by kernel_rfl)) (R.val 3 rfl rfl rfl (by kernel_rfl)) (CM.out _), fun a w R => ltk (R.val 4 rfl rfl rfl (by kernel_rfl)) (Tryd.underlying3) rfl, fun a w R => pickt (R.val 1 rfl rfl rfl (by kernel_rfl)) (R.val 5 rfl rfl rfl (by kernel_rfl)), fun a w R => asg (R.val 6 rfl rfl rfl (by kernel_rfl)), trivial⟩ (fun a1 W11 I => ?_)
      rw [I.act [(109, (.bool true)), (110, (.bool true)), (111, (.agg #[.int .u64 (L0 (0 - z1)), .int .u64 (L1 (0 - z1)), .int .u64 (L2 (0 - z1)), .int .u64 (L3 (0 - z1))])), (112, (.agg #[.int .u64 (L0 r), .int .u64 (L1 r), .int .u64 (L2 r), .int .u64 (L3 r)])), (113, (.int .i64 (-1))), (114, (.bool true)), (115, (.bool true)), (4, (.bool true))]
        ⟨I.val 0 rfl rfl rfl, I.val 1 rfl rfl rfl, I.val 2 rfl rfl rfl, I.val 3 rfl rfl rfl, I.val 4 rfl rfl rfl, I.val 5 rfl rfl rfl, I.val 6 rfl rfl rfl, I.val 7 rfl rfl rfl, trivial⟩ rfl]
      have sW11 : W10.heap.size ≤ W11.heap.size := I.below.size
      replace o12 := I.keep o12 (by repeat' (first | exact trivial | refine Off.v ?_ | refine Off.k ?_ | refine Off.b ?_ | refine Off.p ?_ | refine Off.s ?_ ?_ | omega))
      replace o13 := I.keep o13 (by repeat' (first | exact trivial | refine Off.v ?_ | refine Off.k ?_ | refine Off.b ?_ | refine Off.p ?_ | refine Off.s ?_ ?_ | omega))
      have hW11 : Below w.heap.size w W11 := then_ hW10 I.below hW10.size
      clear I
      simp only [List.foldl_cons, List.foldl_nil, List.setIfInBounds_toArray, List.set_cons_zero, List.set_cons_succ]
      go_wp2
      go_ret
      exact ⟨rfl, hW11⟩
    · have SR1 := fun w => sign_b r fr w
      rw [show sgnZ r = -1 by unfold sgnZ; split <;> (try split) <;> omega] at SR1
      have SR := Lib.hid SR1
      have SA1 := fun w => sign_b z0 f0 w
      rw [show sgnZ z0 = -1 by unfold sgnZ; split <;> (try split) <;> omega] at SA1
      have SA := Lib.hid SA1
      clear SA1
      have SB1 := fun w => sign_b z1 f1 w
      rw [show sgnZ z1 = -1 by unfold sgnZ; split <;> (try split) <;> omega] at SB1
      have SB := Lib.hid SB1
      have CM1 := fun w => Cmp_any z1 r f1 fr w
      rw [show cmpZ z1 r = -1 by unfold cmpZ; rw [if_pos (by omega)]] at CM1
      have CM := Lib.hid CM1
      clear CM1 SR1 SB1 fr f0 f1 r1 r2 r3
      refine region_memo (B := W5.heap.size) (L := .val (.int .i64 0) :: .val (.bool false) :: .val (.bool false) :: .val (.int .i64 0) :: .val (.bool false) :: .val (.bool false) :: .val (.bool false) :: .val (.agg #[.int .u64 (L0 z0), .int .u64 (L1 z0), .int .u64 (L2 z0), .int .u64 (L3 z0)]) :: .val (.agg #[.int .u64 (L0 z0), .int .u64 (L1 z0), .int .u64 (L2 z0), .int .u64 (L3 z0)]) :: .val (.bool false) :: .val (.bool false) :: .val (.bool false) :: .val (.agg #[.int .u64 (L0 r), .int .u64 (L1 r), .int .u64 (L2 r), .int .u64 (L3 r)]) :: .val (.int .i64 (-1)) :: .val (.bool true) :: .val (.bool true) :: .val (.agg #[.int .u64 (L0 r), .int .u64 (L1 r), .int .u64 (L2 r), .int .u64 (L3 r)]) :: .val (.int .i64 (-1)) :: .val (.agg #[.int .u64 (L0 z0), .int .u64 (L1 z0), .int .u64 (L2 z0), .int .u64 (L3 z0)]) :: .val (.int .i64 (-1)) :: .val (.bool false) :: .val (.bool false) :: .val (.bool false) :: []) (by kernel_rfl) (by kernel_rfl) (Nat.le_refl _) ((by exact trivial))
        ⟨fun a w R => mv (R.slot 9 rfl), fun a w R => nqk (R.val 0 rfl rfl rfl (by kernel_rfl)) (Tryd.underlying25) rfl, fun a w R => mv (R.val 1 rfl rfl rfl (by kernel_rfl)), fun a w R => mv (R.slot 11 rfl), fun a w R => nqk (R.val 3 rfl rfl rfl (by kernel_rfl)) (Tryd.underlying25) rfl, fun a w R => pickn (R.val 2 rfl rfl rfl (by kernel_rfl)) (R.val 4 rfl rfl rfl (by kernel_rfl)), fun a w R => mv (R.val 5 rfl rfl rfl (by kernel_rfl)), fun a w R => ld24 (R.slot 10 rfl) (R.keep o10.drawn (by repeat' (first | exact trivial | refine Off.v ?_ | refine Off.k ?_ | refine Off.b ?_ | refine Off.p ?_ | refine Off.s ?_ ?_ | omega))), fun a w R => ld24 (R.slot 2 rfl) (R.keep OA.drawn (by repeat' (first | exact trivial | refine Off.v ?_ | refine Off.k ?_ | refine Off.b ?_ | refine Off.p ?_ | refine Off.s ?_ ?_ | omega))), fun a w R => nqw (R.val 7 rfl rfl rfl (by kernel_rfl)) (R.val 8 rfl rfl rfl (by kernel_rfl)) (eq_i z0), fun a w R => pickn (R.val 6 rfl rfl rfl (by kernel_rfl)) (R.val 9 rfl rfl rfl (by kernel_rfl)), fun a w R => mv (R.val 10 rfl rfl rfl (by kernel_rfl)), fun a w R => ld24 (R.slot 6 rfl) (R.keep o6.drawn (by repeat' (first | exact trivial | refine Off.v ?_ | refine Off.k ?_ | refine Off.b ?_ | refine Off.p ?_ | refine Off.s ?_ ?_ | omega))), fun a w R => cl1 en_Sign (R.val 12 rfl rfl rfl (by kernel_rfl)) (SR.out _), fun a w R => nqk (R.val 13 rfl rfl rfl (by kernel_rfl)) (Tryd.underlying3) rfl, fun a w R => mv (R.val 14 rfl rfl rfl (by kernel_rfl)), fun a w R => ld24 (R.slot 6 rfl) (R.keep o6.drawn (by repeat' (first | exact trivial | refine Off.v ?_ | refine Off.k ?_ | refine Off.b ?_ | refine Off.p ?_ | refine Off.s ?_ ?_ | omega))), fun a w R => cl1 en_Sign (R.val 16 rfl rfl rfl (by kernel_rfl)) (SR.out _), fun a w R => ld24 (R.slot 2 rfl) (R.keep OA.drawn (by repeat' (first | exact trivial | refine Off.v ?_ | refine Off.k ?_ | refine Off.b ?_ | refine Off.p ?_ | refine Off.s ?_ ?_ | omega))), fun a w R => cl1 en_Sign (R.val 18 rfl rfl rfl (by kernel_rfl)) (SA.out _), fun a w R => nqi (R.val 17 rfl rfl rfl (by kernel_rfl)) (R.val 19 rfl rfl rfl (by kernel_rfl)) (Tryd.underlying3) rfl, fun a w R => pickt (R.val 15 rfl rfl rfl (by kernel_rfl)) (R.val 20 rfl rfl rfl (by kernel_rfl)), fun a w R => pickn (R.val 11 rfl rfl rfl (by kernel_rfl)) (R.val 21 rfl rfl rfl (by kernel_rfl)), trivial⟩ (fun a1 W6 I => ?_)
      rw [I.act [(68, (.int .i64 0)), (69, (.bool false)), (70, (.bool false)), (71, (.int .i64 0)), (72, (.bool false)), (73, (.bool false)), (74, (.bool false)), (75, (.agg #[.int .u64 (L0 z0), .int .u64 (L1 z0), .int .u64 (L2 z0), .int .u64 (L3 z0)])), (76, (.agg #[.int .u64 (L0 z0), .int .u64 (L1 z0), .int .u64 (L2 z0), .int .u64 (L3 z0)])), (77, (.bool false)), (78, (.bool false)), (79, (.bool false)), (80, (.agg #[.int .u64 (L0 r), .int .u64 (L1 r), .int .u64 (L2 r), .int .u64 (L3 r)])), (81, (.int .i64 (-1))), (82, (.bool true)), (83, (.bool true)), (84, (.agg #[.int .u64 (L0 r), .int .u64 (L1 r), .int .u64 (L2 r), .int .u64 (L3 r)])), (85, (.int .i64 (-1))), (86, (.agg #[.int .u64 (L0 z0), .int .u64 (L1 z0), .int .u64 (L2 z0), .int .u64 (L3 z0)])), (87, (.int .i64 (-1))), (88, (.bool false)), (89, (.bool false)), (90, (.bool false))]
        ⟨I.val 0 rfl rfl rfl, I.val 1 rfl rfl rfl, I.val 2 rfl rfl rfl, I.val 3 rfl rfl rfl, I.val 4 rfl rfl rfl, I.val 5 rfl rfl rfl, I.val 6 rfl rfl rfl, I.val 7 rfl rfl rfl, I.val 8 rfl rfl rfl, I.val 9 rfl rfl rfl, I.val 10 rfl rfl rfl, I.val 11 rfl rfl rfl, I.val 12 rfl rfl rfl, I.val 13 rfl rfl rfl, I.val 14 rfl rfl rfl, I.val 15 rfl rfl rfl, I.val 16 rfl rfl rfl, I.val 17 rfl rfl rfl, I.val 18 rfl rfl rfl, I.val 19 rfl rfl rfl, I.val 20 rfl rfl rfl, I.val 21 rfl rfl rfl, I.val 22 rfl rfl rfl, trivial⟩ rfl]
      have sW6 : W5.heap.size ≤ W6.heap.size := I.below.size
      replace OA := I.keep OA.drawn (by repeat' (first | exact trivial | refine Off.v ?_ | refine Off.k ?_ | refine Off.b ?_ | refine Off.p ?_ | refine Off.s ?_ ?_ | omega))
      replace OB := I.keep OB.drawn (by repeat' (first | exact trivial | refine Off.v ?_ | refine Off.k ?_ | refine Off.b ?_ | refine Off.p ?_ | refine Off.s ?_ ?_ | omega))
      replace o6 := I.keep o6.drawn (by repeat' (first | exact trivial | refine Off.v ?_ | refine Off.k ?_ | refine Off.b ?_ | refine Off.p ?_ | refine Off.s ?_ ?_ | omega))
      replace o10 := I.keep o10.drawn (by repeat' (first | exact trivial | refine Off.v ?_ | refine Off.k ?_ | refine Off.b ?_ | refine Off.p ?_ | refine Off.s ?_ ?_ | omega))
      have hW6 : Below w.heap.size w W6 := then_ hW5.drew I.below hW5.size
      clear I
      simp only [List.foldl_cons, List.foldl_nil, List.setIfInBounds_toArray, List.set_cons_zero, List.set_cons_succ]
      go_upto_region 10 with fail
      refine region_memo (B := W6.heap.size) (L := .val (.agg #[.int .u64 (L0 r), .int .u64 (L1 r), .int .u64 (L2 r), .int .u64 (L3 r)]) :: .val (.agg #[.int .u64 (L0 z1), .int .u64 (L1 z1), .int .u64 (L2 z1), .int .u64 (L3 z1)]) :: .blk 24 4 :: .blk 24 4 :: .put 12 24 #[.int .u64 (L0 r), .int .u64 (L1 r), .int .u64 (L2 r), .int .u64 (L3 r)] :: .put 13 24 #[.int .u64 (L0 z1), .int .u64 (L1 z1), .int .u64 (L2 z1), .int .u64 (L3 z1)] :: []) (by kernel_rfl) (by kernel_rfl) (Nat.le_refl _) ((by exact trivial))
        ⟨fun a w R => ld24 (R.slot 6 rfl) (R.keep o6.drawn (by repeat' (first | exact trivial | refine Off.v ?_ | refine Off.k ?_ | refine Off.b ?_ | refine Off.p ?_ | refine Off.s ?_ ?_ | omega))), fun a w R => ld24 (R.slot 3 rfl) (R.keep OB.drawn (by repeat' (first | exact trivial | refine Off.v ?_ | refine Off.k ?_ | refine Off.b ?_ | refine Off.p ?_ | refine Off.s ?_ ?_ | omega))), fun a w R => al24, fun a w R => al24, fun a w R => sb24 (R.dep 2 rfl (by kernel_rfl)) (R.val 0 rfl rfl rfl (by kernel_rfl)), fun a w R => sb24 (R.dep 3 rfl (by kernel_rfl)) (R.val 1 rfl rfl rfl (by kernel_rfl)), trivial⟩ (fun a1 W7 I => ?_)
      obtain ⟨b12, e12, l12, o12⟩ := I.put 4 rfl rfl
      obtain ⟨b13, e13, l13, o13⟩ := I.put 5 rfl rfl
      have n12_13 := I.far 2 3 rfl rfl (by omega) rfl rfl rfl rfl e12 e13
      rw [I.act [(91, (.agg #[.int .u64 (L0 r), .int .u64 (L1 r), .int .u64 (L2 r), .int .u64 (L3 r)])), (92, (.agg #[.int .u64 (L0 z1), .int .u64 (L1 z1), .int .u64 (L2 z1), .int .u64 (L3 z1)])), (12, .pointer (some ⟨b12, 0, none⟩)), (13, .pointer (some ⟨b13, 0, none⟩))]
        ⟨I.val 0 rfl rfl rfl, I.val 1 rfl rfl rfl, e12, e13, trivial⟩ rfl]
      change W6.heap.size ≤ b12 at l12
      change W6.heap.size ≤ b13 at l13
      have sW7 : W6.heap.size ≤ W7.heap.size := I.below.size
      replace OB := I.keep OB.drawn (by repeat' (first | exact trivial | refine Off.v ?_ | refine Off.k ?_ | refine Off.b ?_ | refine Off.p ?_ | refine Off.s ?_ ?_ | omega))
      replace o6 := I.keep o6.drawn (by repeat' (first | exact trivial | refine Off.v ?_ | refine Off.k ?_ | refine Off.b ?_ | refine Off.p ?_ | refine Off.s ?_ ?_ | omega))
      have hW7 : Below w.heap.size w W7 := then_ hW6.drew I.below hW6.size
      clear e12 e13
      clear I
      simp only [List.foldl_cons, List.foldl_nil, List.setIfInBounds_toArray, List.set_cons_zero, List.set_cons_succ]
      go_upto_region 11 with fail
      have z0' := hW6.size
      have l12' : w.heap.size ≤ b12 := Nat.le_trans z0' l12
      have l13' : w.heap.size ≤ b13 := Nat.le_trans z0' l13
      clear z0'
      refine region_memo_f (B := W7.heap.size) (L := .val (.agg #[.int .u64 (L0 r), .int .u64 (L1 r), .int .u64 (L2 r), .int .u64 (L3 r)]) :: .val (.int .i64 (-1)) :: .val (.bool false) :: []) (by kernel_rfl) (Nat.le_refl _) ((by exact trivial))
        ⟨fun a w R => ld24 (R.slot 12 rfl) (R.keep o12 (by repeat' (first | exact trivial | refine Off.v ?_ | refine Off.k ?_ | refine Off.b ?_ | refine Off.p ?_ | refine Off.s ?_ ?_ | omega))), fun a w R => cl1 en_Sign (R.val 0 rfl rfl rfl (by kernel_rfl)) (SR.out _), fun a w R => gtk (R.val 1 rfl rfl rfl (by kernel_rfl)) (Tryd.underlying3) rfl, trivial⟩ (fun a1 W8 I => ?_)
      rw [I.act [(93, (.agg #[.int .u64 (L0 r), .int .u64 (L1 r), .int .u64 (L2 r), .int .u64 (L3 r)])), (94, (.int .i64 (-1))), (95, (.bool false))]
        ⟨I.val 0 rfl rfl rfl, I.val 1 rfl rfl rfl, I.val 2 rfl rfl rfl, trivial⟩ rfl]
      have sW8 : W7.heap.size ≤ W8.heap.size := I.below.size
      replace o12 := I.keep o12 (by repeat' (first | exact trivial | refine Off.v ?_ | refine Off.k ?_ | refine Off.b ?_ | refine Off.p ?_ | refine Off.s ?_ ?_ | omega))
      replace o13 := I.keep o13 (by repeat' (first | exact trivial | refine Off.v ?_ | refine Off.k ?_ | refine Off.b ?_ | refine Off.p ?_ | refine Off.s ?_ ?_ | omega))
      have hW8 : Below w.heap.size w W8 := then_ hW7 I.below hW7.size
      clear I
      simp only [List.foldl_cons, List.foldl_nil, List.setIfInBounds_toArray, List.set_cons_zero, List.set_cons_succ]
      go_upto_region 13 with fail
      refine region_memo_f (B := W8.heap.size) (L := .val (.agg #[.int .u64 (L0 z1), .int .u64 (L1 z1), .int .u64 (L2 z1), .int .u64 (L3 z1)]) :: .val (.int .i64 (-1)) :: .val (.bool false) :: []) (by kernel_rfl) (Nat.le_refl _) ((by exact trivial))
        ⟨fun a w R => ld24 (R.slot 13 rfl) (R.keep o13 (by repeat' (first | exact trivial | refine Off.v ?_ | refine Off.k ?_ | refine Off.b ?_ | refine Off.p ?_ | refine Off.s ?_ ?_ | omega))), fun a w R => cl1 en_Sign (R.val 0 rfl rfl rfl (by kernel_rfl)) (SB.out _), fun a w R => gtk (R.val 1 rfl rfl rfl (by kernel_rfl)) (Tryd.underlying3) rfl, trivial⟩ (fun a1 W9 I => ?_)
      rw [I.act [(101, (.agg #[.int .u64 (L0 z1), .int .u64 (L1 z1), .int .u64 (L2 z1), .int .u64 (L3 z1)])), (102, (.int .i64 (-1))), (103, (.bool false))]
        ⟨I.val 0 rfl rfl rfl, I.val 1 rfl rfl rfl, I.val 2 rfl rfl rfl, trivial⟩ rfl]
      have sW9 : W8.heap.size ≤ W9.heap.size := I.below.size
      replace o12 := I.keep o12 (by repeat' (first | exact trivial | refine Off.v ?_ | refine Off.k ?_ | refine Off.b ?_ | refine Off.p ?_ | refine Off.s ?_ ?_ | omega))
      replace o13 := I.keep o13 (by repeat' (first | exact trivial | refine Off.v ?_ | refine Off.k ?_ | refine Off.b ?_ | refine Off.p ?_ | refine Off.s ?_ ?_ | omega))
      have hW9 : Below w.heap.size w W9 := then_ hW8 I.below hW8.size
      clear I
      simp only [List.foldl_cons, List.foldl_nil, List.setIfInBounds_toArray, List.set_cons_zero, List.set_cons_succ]
      go_upto_region 15 with fail
      have HP : Pow10 W9 := hp.keep hW9
      refine region_memo_f (B := W9.heap.size) (L := .val (.bool true) :: .val (.bool true) :: .val (.agg #[.int .u64 (L0 z1), .int .u64 (L1 z1), .int .u64 (L2 z1), .int .u64 (L3 z1)]) :: .val (.agg #[.int .u64 (L0 r), .int .u64 (L1 r), .int .u64 (L2 r), .int .u64 (L3 r)]) :: .val (.int .i64 (-1)) :: .val (.bool true) :: .val (.bool true) :: .val (.bool true) :: []) (by kernel_rfl) (Nat.le_refl _) ((by exact trivial))
        ⟨fun a w R => cl0 en_awake (awake_any _ (HP.keep R.below)), fun a w R => mv (R.val 0 rfl rfl rfl (by kernel_rfl)), fun a w R => ld24 (R.slot 13 rfl) (R.keep o13 (by repeat' (first | exact trivial | refine Off.v ?_ | refine Off.k ?_ | refine Off.b ?_ | refine Off.p ?_ | refine Off.s ?_ ?_ | omega))), fun a w R => ld24 (R.slot 12 rfl) (R.keep o12 (by repeat' (first | exact trivial | refine Off.v ?_ | refine Off.k ?_ | refine Off.b ?_ | refine Off.p ?_ | refine Off.s ?_ ?_ | omega))), fun a w R => cl2 en_Cmp (R.val 2 rfl rfl rfl (by kernel_rfl)) (R.val 3 rfl rfl rfl (by kernel_rfl)) (CM.out _), fun a w R => ltk (R.val 4 rfl rfl rfl (by kernel_rfl)) (Tryd.underlying3) rfl, fun a w R => pickt (R.val 1 rfl rfl rfl (by kernel_rfl)) (R.val 5 rfl rfl rfl (by kernel_rfl)), fun a w R => asg (R.val 6 rfl rfl rfl (by kernel_rfl)), trivial⟩ (fun a1 W10 I => ?_)
      rw [I.act [(109, (.bool true)), (110, (.bool true)), (111, (.agg #[.int .u64 (L0 z1), .int .u64 (L1 z1), .int .u64 (L2 z1), .int .u64 (L3 z1)])), (112, (.agg #[.int .u64 (L0 r), .int .u64 (L1 r), .int .u64 (L2 r), .int .u64 (L3 r)])), (113, (.int .i64 (-1))), (114, (.bool true)), (115, (.bool true)), (4, (.bool true))]
        ⟨I.val 0 rfl rfl rfl, I.val 1 rfl rfl rfl, I.val 2 rfl rfl rfl, I.val 3 rfl rfl rfl, I.val 4 rfl rfl rfl, I.val 5 rfl rfl rfl, I.val 6 rfl rfl rfl, I.val 7 rfl rfl rfl, trivial⟩ rfl]
      have sW10 : W9.heap.size ≤ W10.heap.size := I.below.size
      replace o12 := I.keep o12 (by repeat' (first | exact trivial | refine Off.v ?_ | refine Off.k ?_ | refine Off.b ?_ | refine Off.p ?_ | refine Off.s ?_ ?_ | omega))
      replace o13 := I.keep o13 (by repeat' (first | exact trivial | refine Off.v ?_ | refine Off.k ?_ | refine Off.b ?_ | refine Off.p ?_ | refine Off.s ?_ ?_ | omega))
      have hW10 : Below w.heap.size w W10 := then_ hW9 I.below hW9.size
      clear I
      simp only [List.foldl_cons, List.foldl_nil, List.setIfInBounds_toArray, List.set_cons_zero, List.set_cons_succ]
      go_wp2
      go_ret
      exact ⟨rfl, hW10⟩

set_option maxRecDepth 100000 in
theorem lifted (os : Os) (started : os.Started) (H : Type) (enc : TypeId × Value → H) :
    ReturnsInHanded {} Tryd.checked os 4 .any (fun w args => (Rows.wideDividesSpec.pre enc Tryd.prog Tryd.f4 [] false w args ∧ laidMetH Tryd.prog lay3 w) ∧ sizedMet enc Tryd.prog Tryd.f4 (OpenSpec.ofChange Rows.wideDividesSpec) false w args) (Rows.wideDividesSpec.post enc Tryd.prog Tryd.f4 false true false false) := by
  refine returnsInHanded_of_change_and (C := Tryd.checked) (X := fun w _ => laidMetH Tryd.prog lay3 w) (fun _ _ _ hh h => h.of_heap hh) own started (by kernel_rfl) Tryd.func4
    (ChangeSpec.witness_shaped (enc := enc) (C := Tryd.checked) (os := os) (X := fun w _ => laidMetH Tryd.prog lay3 w) false (World.doorLaid Tryd.prog 400 os) #[.agg #[.int .u64 0, .int .u64 0, .int .u64 0, .int .u64 0], .agg #[.int .u64 0, .int .u64 0, .int .u64 0, .int .u64 0]] 8 rfl (World.shaped_of_RefB (by kernel_rfl) (by kernel_rfl)) (by kernel_rfl) (by kernel_rfl) (by kernel_rfl) (door_met os _)) ?_
  intro W base args ds gs before hval0 hW _ _ hL _
  have hval : ∀ (j : Nat) t v, Tryd.f4.params[j]? = some t → args[j]? = some v → Value.okWide Tryd.prog W .any base t v := hval0
  have hW' := hW
  obtain ⟨p, q, hA0, hV, rfl, hfz, hnd⟩ := hW
  have hA : DataW.TrodAll enc Tryd.prog W 0 (fun _ => true) true Tryd.f4.params.toList args.toList ds p := hA0
  rw [Tryd.params4] at hA hval
  obtain ⟨v0, vs0, d0, ds0, p0, q0, hargs, rfl, rfl, h0, r0⟩ := trodAll_cons hA
  obtain ⟨v1, vs1, d1, ds1, p1, q1, rfl, rfl, rfl, h1, r1⟩ := trodAll_cons r0
  obtain ⟨rfl, rfl, rfl⟩ := trodAll_nil r1
  obtain rfl : args = #[v0, v1] := by cases args; simp_all
  obtain ⟨rfl, rfl⟩ := trodVars_none hV
  obtain ⟨z0, rfl, rfl, rfl, f0⟩ := open_i4 (hval 0 24 v0 rfl rfl) h0
  obtain ⟨z1, rfl, rfl, rfl, f1⟩ := open_i4 (hval 1 24 v1 rfl rfl) h1
  clear hA0 hval0
  refine (walk z0 z1 W f0 f1 (pow_of hL)).mono fun e W' ⟨he, bel⟩ => ?_
  subst he
  exact ⟨_, rfl, _, _, _, [], _, [], hW', trodAll_mk1 (shut_bool Tryd.underlying4 _), (trodAll_cons_mk (shut_i4 _) (trodAll_cons_mk (shut_i4 _) trodAll_mk0)), rfl, bel.frame _, fun h => by cases h⟩

theorem over : Rows.WideDividesSaid :=
  OpenClaim.holds_of_wide 4 Tryd.f4 rfl rfl rfl rfl rfl rfl rfl ⟨rfl, rfl, rfl, rfl, rfl⟩ rfl rfl rfl rfl rfl (by kernel_rfl) Tryd.func4 (by kernel_rfl)
    (of_decide_eq_true (by kernel_rfl)) (by unfold Func.isWrapper; first | (rw [if_pos (by decide +kernel)]; kernel_rfl) | (rw [if_neg (by decide +kernel)]; exact ⟨rfl, rfl⟩))
    (fun os started H enc _ => lifted os started H enc)

/-- THE STATEMENT -/
theorem proved : Rows.WideDividesCardSaid :=
  Claim7.holds_tied_plain_at .later [] [.data, .data, .data] true (true, "47736ff30275cea319144992b9be9eacce67dcf5cce1ba0c7c9b132f2de78be1") false
    over (fun _ h => by cases h) (by kernel_rfl) (fun _ h => by cases h) wideDivides_row_tie rfl ⟨rfl, rfl⟩ (by kernel_rfl) rfl
    (fun f fn hf hfn => by
      obtain rfl : f = 4 := Option.some.inj ((show Tryd.prog.funcNamed "croft/croftlaw03.WideDivides" = some 4 by kernel_rfl).symm.trans hf) |>.symm
      obtain rfl : fn = Tryd.f4 := (Option.some.inj (Tryd.func4.symm.trans hfn)).symm
      exact ⟨by kernel_rfl, fun j t ht => by
        rw [Tryd.params4] at ht
        have hm : t ∈ [24, 24] := by simpa using Array.mem_of_getElem? ht
        have hall : ([24, 24].all fun u => !Tryd.prog.wantsStandIn u) = true := by kernel_rfl
        exact (show Tryd.prog.wantsStandIn t = false by simpa using List.all_eq_true.1 hall t hm)⟩)
    (by kernel_rfl)
#print axioms proved
end Go.Proofs.YtfgamdhhdiogjaaDoor.wideDivides
