/- WideShares: what Gcd answers divides both, and whatever divides both divides it, for any three numbers; the tables start as the program's text lays them. -/
import Derived.Test.YtfgamdhhdiogjaaDoorRows
import Derived.Test.YtfgamdhhdiogjaaDoorBase
import Derived.Test.YtfgamdhhdiogjaaDoorMemoZ
import Derived.WalkKit
import Derived.ProofKit
import Derived.OpenShut
import Derived.ShutString
import Derived.ChangeOld
import Derived.Below
import Derived.SliceStrings
import Derived.Test.YtfgamdhhdiogjaaDoorLaid
import Derived.Test.YtfgamdhhdiogjaaDoorCards
import Derived.Test.YtfgamdhhdiogjaaDoorTie
import Derived.LaidMore
import Derived.Stop.Joined
import Derived.SevenTiedAt
namespace Go.Proofs.YtfgamdhhdiogjaaDoor.wideShares
open Go.ChangeShapes Go.WideShapes Go.ChangeAt Go.RowKit
open Go.ChangeMaps (open_string shut_string)
set_option linter.unusedVariables false

theorem own : ownKnob Tryd.prog.godebug = none := by kernel_rfl
theorem laidOut : laidOutB Tryd.prog = true := by kernel_rfl

set_option maxHeartbeats 16000000 in
set_option maxRecDepth 20000 in
theorem walk (z0 : Int) (z1 : Int) (z2 : Int) (w : World) (f0 : Fit z0) (f1 : Fit z1) (f2 : Fit z2) (hp : Pow10 w) :
    Calls Tryd.prog 5 #[.agg #[.int .u64 (L0 z0), .int .u64 (L1 z0), .int .u64 (L2 z0), .int .u64 (L3 z0)], .agg #[.int .u64 (L0 z1), .int .u64 (L1 z1), .int .u64 (L2 z1), .int .u64 (L3 z1)], .agg #[.int .u64 (L0 z2), .int .u64 (L1 z2), .int .u64 (L2 z2), .int .u64 (L3 z2)]] w fun e w' => e = .returned (.bool true) ∧ Below w.heap.size w w' := by
  obtain ⟨g, eg, GC⟩ := gcd_all z0 z1 f0 f1
  have G1 := Lib.hid GC.1
  go_enter Tryd.func5, Tryd.ntmps5
  go_upto_region 1 with fail
  go_name_world W0 hW0e
  have OA : Own W0 w.heap.size 24 #[.int .u64 (L0 z0), .int .u64 (L1 z0), .int .u64 (L2 z0), .int .u64 (L3 z0)] := hW0e ▸ (by repeat' (first | (with_reducible assumption) | (with_reducible refine Own.drawnN ?_ _) | (with_reducible refine Own.drawn ?_) | (with_reducible refine Own.made_at ?_; first | rfl | (simp; done) | omega | (simp; omega)) | (with_reducible refine Own.more ?_ _) | (with_reducible refine Own.apart ?_ ?_ _ _; rotate_left; first | omega | (simp; done) | (simp; omega)) | (refine Own.put ?_ _ _)))
  have OB : Own W0 (w.heap.size + 1) 24 #[.int .u64 (L0 z1), .int .u64 (L1 z1), .int .u64 (L2 z1), .int .u64 (L3 z1)] := hW0e ▸ (by repeat' (first | (with_reducible assumption) | (with_reducible refine Own.drawnN ?_ _) | (with_reducible refine Own.drawn ?_) | (with_reducible refine Own.made_at ?_; first | rfl | (simp; done) | omega | (simp; omega)) | (with_reducible refine Own.more ?_ _) | (with_reducible refine Own.apart ?_ ?_ _ _; rotate_left; first | omega | (simp; done) | (simp; omega)) | (refine Own.put ?_ _ _)))
  have OC : Own W0 (w.heap.size + 1 + 1) 24 #[.int .u64 (L0 z2), .int .u64 (L1 z2), .int .u64 (L2 z2), .int .u64 (L3 z2)] := hW0e ▸ (by repeat' (first | (with_reducible assumption) | (with_reducible refine Own.drawnN ?_ _) | (with_reducible refine Own.drawn ?_) | (with_reducible refine Own.made_at ?_; first | rfl | (simp; done) | omega | (simp; omega)) | (with_reducible refine Own.more ?_ _) | (with_reducible refine Own.apart ?_ ?_ _ _; rotate_left; first | omega | (simp; done) | (simp; omega)) | (refine Own.put ?_ _ _)))
  have hW0 : Below w.heap.size w W0 := hW0e ▸ (by repeat' (first | (with_reducible exact Below.refl _ _) | (with_reducible assumption) | (with_reducible refine below_drewN ?_ _) | (with_reducible refine Below.drew ?_) | (with_reducible refine Below.alloc ?_ ?_ _) | (with_reducible refine Below.setCell ?_ ?_ _) | (with_reducible refine then_ ?_ (by with_reducible assumption) ?_) | (with_reducible exact Nat.le_refl _) | (with_reducible exact Nat.le_succ _) | (with_reducible exact Nat.le_succ_of_le (by with_reducible assumption)) | omega | (simp; done) | (simp; omega) | (exact Nat.le_succ _) | (exact Nat.le_succ_of_le (by with_reducible assumption))))
  clear hW0e
  refine region_memo_f (B := W0.heap.size) (L := .val (.agg #[.int .u64 (L0 z0), .int .u64 (L1 z0), .int .u64 (L2 z0), .int .u64 (L3 z0)]) :: .val (.agg #[.int .u64 (L0 z1), .int .u64 (L1 z1), .int .u64 (L2 z1), .int .u64 (L3 z1)]) :: .val (.tuple #[(.agg #[.int .u64 (L0 g), .int .u64 (L1 g), .int .u64 (L2 g), .int .u64 (L3 g)]), (.int .i64 eg)]) :: .val (.tuple #[(.agg #[.int .u64 (L0 g), .int .u64 (L1 g), .int .u64 (L2 g), .int .u64 (L3 g)]), (.int .i64 eg)]) :: .val (.agg #[.int .u64 (L0 g), .int .u64 (L1 g), .int .u64 (L2 g), .int .u64 (L3 g)]) :: .val (.int .i64 eg) :: .blk 24 4 :: .put 7 24 #[.int .u64 (L0 g), .int .u64 (L1 g), .int .u64 (L2 g), .int .u64 (L3 g)] :: .val (.int .i64 eg) :: []) (by kernel_rfl) (Nat.le_refl _) ((by exact trivial))
    ⟨fun a w R => ld24 (R.slot 3 rfl) (R.keep OA (by repeat' (first | exact trivial | refine Off.v ?_ | refine Off.k ?_ | refine Off.b ?_ | refine Off.p ?_ | refine Off.s ?_ ?_ | omega))), fun a w R => ld24 (R.slot 4 rfl) (R.keep OB (by repeat' (first | exact trivial | refine Off.v ?_ | refine Off.k ?_ | refine Off.b ?_ | refine Off.p ?_ | refine Off.s ?_ ?_ | omega))), fun a w R => cl2 en_Gcd (R.val 0 rfl rfl rfl (by kernel_rfl)) (R.val 1 rfl rfl rfl (by kernel_rfl)) (G1.out _), fun a w R => mv (R.val 2 rfl rfl rfl (by kernel_rfl)), fun a w R => ex0 (R.val 3 rfl rfl rfl (by kernel_rfl)), fun a w R => ex1 (R.val 3 rfl rfl rfl (by kernel_rfl)), fun a w R => al24, fun a w R => sb24 (R.dep 6 rfl (by kernel_rfl)) (R.val 4 rfl rfl rfl (by kernel_rfl)), fun a w R => asg (R.val 5 rfl rfl rfl (by kernel_rfl)), trivial⟩ (fun a1 W1 I => ?_)
  obtain ⟨b7, e7, l7, o7⟩ := I.put 7 rfl rfl
  rw [I.act [(25, (.agg #[.int .u64 (L0 z0), .int .u64 (L1 z0), .int .u64 (L2 z0), .int .u64 (L3 z0)])), (26, (.agg #[.int .u64 (L0 z1), .int .u64 (L1 z1), .int .u64 (L2 z1), .int .u64 (L3 z1)])), (27, (.tuple #[(.agg #[.int .u64 (L0 g), .int .u64 (L1 g), .int .u64 (L2 g), .int .u64 (L3 g)]), (.int .i64 eg)])), (24, (.tuple #[(.agg #[.int .u64 (L0 g), .int .u64 (L1 g), .int .u64 (L2 g), .int .u64 (L3 g)]), (.int .i64 eg)])), (28, (.agg #[.int .u64 (L0 g), .int .u64 (L1 g), .int .u64 (L2 g), .int .u64 (L3 g)])), (29, (.int .i64 eg)), (7, .pointer (some ⟨b7, 0, none⟩)), (8, (.int .i64 eg))]
    ⟨I.val 0 rfl rfl rfl, I.val 1 rfl rfl rfl, I.val 2 rfl rfl rfl, I.val 3 rfl rfl rfl, I.val 4 rfl rfl rfl, I.val 5 rfl rfl rfl, e7, I.val 8 rfl rfl rfl, trivial⟩ rfl]
  change W0.heap.size ≤ b7 at l7
  have sW1 : W0.heap.size ≤ W1.heap.size := I.below.size
  replace OA := I.keep OA (by repeat' (first | exact trivial | refine Off.v ?_ | refine Off.k ?_ | refine Off.b ?_ | refine Off.p ?_ | refine Off.s ?_ ?_ | omega))
  replace OB := I.keep OB (by repeat' (first | exact trivial | refine Off.v ?_ | refine Off.k ?_ | refine Off.b ?_ | refine Off.p ?_ | refine Off.s ?_ ?_ | omega))
  replace OC := I.keep OC (by repeat' (first | exact trivial | refine Off.v ?_ | refine Off.k ?_ | refine Off.b ?_ | refine Off.p ?_ | refine Off.s ?_ ?_ | omega))
  have hW1 : Below w.heap.size w W1 := then_ hW0 I.below hW0.size
  clear e7
  clear I
  simp only [List.foldl_cons, List.foldl_nil, List.setIfInBounds_toArray, List.set_cons_zero, List.set_cons_succ]
  clear G1
  go_upto_region 2 with fail
  rcases GC.2.2 with ⟨he, hg, _⟩ | ⟨he, hg⟩
  · subst he
    clear GC f0 f1 f2 hg
    refine region_memo_f (B := W1.heap.size) (L := .val (.int .i64 3) :: .val (.bool true) :: []) (by kernel_rfl) (Nat.le_refl _) ((by exact trivial))
      ⟨fun a w R => mv (R.slot 8 rfl), fun a w R => nqk (R.val 0 rfl rfl rfl (by kernel_rfl)) (Tryd.underlying25) rfl, trivial⟩ (fun a1 W2 I => ?_)
    rw [I.act [(30, (.int .i64 3)), (31, (.bool true))]
      ⟨I.val 0 rfl rfl rfl, I.val 1 rfl rfl rfl, trivial⟩ rfl]
    have sW2 : W1.heap.size ≤ W2.heap.size := I.below.size
    have hW2 : Below w.heap.size w W2 := then_ hW1 I.below hW1.size
    clear I
    simp only [List.foldl_cons, List.foldl_nil, List.setIfInBounds_toArray, List.set_cons_zero, List.set_cons_succ]
    go_upto_region 3 with fail
    have HP : Pow10 W2 := hp.keep hW2
    refine region_memo_f (B := W2.heap.size) (L := .val (.bool true) :: .val (.bool true) :: .val (.int .i64 3) :: .val (.bool true) :: .val (.bool true) :: .val (.bool true) :: []) (by kernel_rfl) (Nat.le_refl _) ((by exact trivial))
      ⟨fun a w R => cl0 en_awake (awake_any _ (HP.keep R.below)), fun a w R => mv (R.val 0 rfl rfl rfl (by kernel_rfl)), fun a w R => mv (R.slot 8 rfl), fun a w R => eqk (R.val 2 rfl rfl rfl (by kernel_rfl)) (Tryd.underlying25) rfl, fun a w R => pickt (R.val 1 rfl rfl rfl (by kernel_rfl)) (R.val 3 rfl rfl rfl (by kernel_rfl)), fun a w R => asg (R.val 4 rfl rfl rfl (by kernel_rfl)), trivial⟩ (fun a1 W3 I => ?_)
    rw [I.act [(32, (.bool true)), (33, (.bool true)), (34, (.int .i64 3)), (35, (.bool true)), (36, (.bool true)), (6, (.bool true))]
      ⟨I.val 0 rfl rfl rfl, I.val 1 rfl rfl rfl, I.val 2 rfl rfl rfl, I.val 3 rfl rfl rfl, I.val 4 rfl rfl rfl, I.val 5 rfl rfl rfl, trivial⟩ rfl]
    have sW3 : W2.heap.size ≤ W3.heap.size := I.below.size
    have hW3 : Below w.heap.size w W3 := then_ hW2 I.below hW2.size
    clear I
    simp only [List.foldl_cons, List.foldl_nil, List.setIfInBounds_toArray, List.set_cons_zero, List.set_cons_succ]
    go_wp2
    go_ret
    exact ⟨rfl, hW3⟩
  · subst he
    have fg := GC.2.1
    clear GC
    refine region_memo_f (B := W1.heap.size) (L := .val (.int .i64 0) :: .val (.bool false) :: []) (by kernel_rfl) (Nat.le_refl _) ((by exact trivial))
      ⟨fun a w R => mv (R.slot 8 rfl), fun a w R => nqk (R.val 0 rfl rfl rfl (by kernel_rfl)) (Tryd.underlying25) rfl, trivial⟩ (fun a1 W2 I => ?_)
    rw [I.act [(30, (.int .i64 0)), (31, (.bool false))]
      ⟨I.val 0 rfl rfl rfl, I.val 1 rfl rfl rfl, trivial⟩ rfl]
    have sW2 : W1.heap.size ≤ W2.heap.size := I.below.size
    replace OA := I.keep OA (by repeat' (first | exact trivial | refine Off.v ?_ | refine Off.k ?_ | refine Off.b ?_ | refine Off.p ?_ | refine Off.s ?_ ?_ | omega))
    replace OB := I.keep OB (by repeat' (first | exact trivial | refine Off.v ?_ | refine Off.k ?_ | refine Off.b ?_ | refine Off.p ?_ | refine Off.s ?_ ?_ | omega))
    replace OC := I.keep OC (by repeat' (first | exact trivial | refine Off.v ?_ | refine Off.k ?_ | refine Off.b ?_ | refine Off.p ?_ | refine Off.s ?_ ?_ | omega))
    replace o7 := I.keep o7 (by repeat' (first | exact trivial | refine Off.v ?_ | refine Off.k ?_ | refine Off.b ?_ | refine Off.p ?_ | refine Off.s ?_ ?_ | omega))
    have hW2 : Below w.heap.size w W2 := then_ hW1 I.below hW1.size
    clear I
    simp only [List.foldl_cons, List.foldl_nil, List.setIfInBounds_toArray, List.set_cons_zero, List.set_cons_succ]
    go_upto_region 4 with fail
    by_cases h0 : g = 0
    · obtain ⟨ha, hb⟩ := gcd_zero (hg.symm.trans h0)
      subst h0 ha hb
      clear hg fg f0 f1 f2
      refine region_memo_f (B := W2.heap.size) (L := .val (.agg #[.int .u64 (L0 0), .int .u64 (L1 0), .int .u64 (L2 0), .int .u64 (L3 0)]) :: .val (.agg #[.int .u64 0, .int .u64 0, .int .u64 0, .int .u64 0]) :: .val (.bool true) :: []) (by kernel_rfl) (Nat.le_refl _) ((by exact trivial))
        ⟨fun a w R => ld24 (R.slot 7 rfl) (R.keep o7 (by repeat' (first | exact trivial | refine Off.v ?_ | refine Off.k ?_ | refine Off.b ?_ | refine Off.p ?_ | refine Off.s ?_ ?_ | omega))), fun a w R => bld0, fun a w R => eqw (R.val 0 rfl rfl rfl (by kernel_rfl)) (R.val 1 rfl rfl rfl (by kernel_rfl)) eq_z0, trivial⟩ (fun a1 W3 I => ?_)
      rw [I.act [(37, (.agg #[.int .u64 (L0 0), .int .u64 (L1 0), .int .u64 (L2 0), .int .u64 (L3 0)])), (38, (.agg #[.int .u64 0, .int .u64 0, .int .u64 0, .int .u64 0])), (39, (.bool true))]
        ⟨I.val 0 rfl rfl rfl, I.val 1 rfl rfl rfl, I.val 2 rfl rfl rfl, trivial⟩ rfl]
      have sW3 : W2.heap.size ≤ W3.heap.size := I.below.size
      replace OA := I.keep OA (by repeat' (first | exact trivial | refine Off.v ?_ | refine Off.k ?_ | refine Off.b ?_ | refine Off.p ?_ | refine Off.s ?_ ?_ | omega))
      replace OB := I.keep OB (by repeat' (first | exact trivial | refine Off.v ?_ | refine Off.k ?_ | refine Off.b ?_ | refine Off.p ?_ | refine Off.s ?_ ?_ | omega))
      replace OC := I.keep OC (by repeat' (first | exact trivial | refine Off.v ?_ | refine Off.k ?_ | refine Off.b ?_ | refine Off.p ?_ | refine Off.s ?_ ?_ | omega))
      replace o7 := I.keep o7 (by repeat' (first | exact trivial | refine Off.v ?_ | refine Off.k ?_ | refine Off.b ?_ | refine Off.p ?_ | refine Off.s ?_ ?_ | omega))
      have hW3 : Below w.heap.size w W3 := then_ hW2 I.below hW2.size
      clear I
      simp only [List.foldl_cons, List.foldl_nil, List.setIfInBounds_toArray, List.set_cons_zero, List.set_cons_succ]
      go_upto_region 5 with fail
      have HP : Pow10 W3 := hp.keep hW3
      refine region_memo_f (B := W3.heap.size) (L := .val (.bool true) :: .val (.bool true) :: .val (.agg #[.int .u64 (L0 0), .int .u64 (L1 0), .int .u64 (L2 0), .int .u64 (L3 0)]) :: .val (.agg #[.int .u64 (L0 0), .int .u64 (L1 0), .int .u64 (L2 0), .int .u64 (L3 0)]) :: .val (.bool true) :: .val (.bool true) :: .val (.bool true) :: .val (.agg #[.int .u64 (L0 0), .int .u64 (L1 0), .int .u64 (L2 0), .int .u64 (L3 0)]) :: .val (.agg #[.int .u64 (L0 0), .int .u64 (L1 0), .int .u64 (L2 0), .int .u64 (L3 0)]) :: .val (.bool true) :: .val (.bool true) :: .val (.bool true) :: []) (by kernel_rfl) (Nat.le_refl _) ((by exact trivial))
        ⟨fun a w R => cl0 en_awake (awake_any _ (HP.keep R.below)), fun a w R => mv (R.val 0 rfl rfl rfl (by kernel_rfl)), fun a w R => ld24 (R.slot 3 rfl) (R.keep OA (by repeat' (first | exact trivial | refine Off.v ?_ | refine Off.k ?_ | refine Off.b ?_ | refine Off.p ?_ | refine Off.s ?_ ?_ | omega))), fun a w R => ld24 (R.slot 7 rfl) (R.keep o7 (by repeat' (first | exact trivial | refine Off.v ?_ | refine Off.k ?_ | refine Off.b ?_ | refine Off.p ?_ | refine Off.s ?_ ?_ | omega))), fun a w R => eqw (R.val 2 rfl rfl rfl (by kernel_rfl)) (R.val 3 rfl rfl rfl (by kernel_rfl)) (eq_i 0), fun a w R => pickt (R.val 1 rfl rfl rfl (by kernel_rfl)) (R.val 4 rfl rfl rfl (by kernel_rfl)), fun a w R => mv (R.val 5 rfl rfl rfl (by kernel_rfl)), fun a w R => ld24 (R.slot 4 rfl) (R.keep OB (by repeat' (first | exact trivial | refine Off.v ?_ | refine Off.k ?_ | refine Off.b ?_ | refine Off.p ?_ | refine Off.s ?_ ?_ | omega))), fun a w R => ld24 (R.slot 7 rfl) (R.keep o7 (by repeat' (first | exact trivial | refine Off.v ?_ | refine Off.k ?_ | refine Off.b ?_ | refine Off.p ?_ | refine Off.s ?_ ?_ | omega))), fun a w R => eqw (R.val 7 rfl rfl rfl (by kernel_rfl)) (R.val 8 rfl rfl rfl (by kernel_rfl)) (eq_i 0), fun a w R => pickt (R.val 6 rfl rfl rfl (by kernel_rfl)) (R.val 9 rfl rfl rfl (by kernel_rfl)), fun a w R => asg (R.val 10 rfl rfl rfl (by kernel_rfl)), trivial⟩ (fun a1 W4 I => ?_)
      rw [I.act [(40, (.bool true)), (41, (.bool true)), (42, (.agg #[.int .u64 (L0 0), .int .u64 (L1 0), .int .u64 (L2 0), .int .u64 (L3 0)])), (43, (.agg #[.int .u64 (L0 0), .int .u64 (L1 0), .int .u64 (L2 0), .int .u64 (L3 0)])), (44, (.bool true)), (45, (.bool true)), (46, (.bool true)), (47, (.agg #[.int .u64 (L0 0), .int .u64 (L1 0), .int .u64 (L2 0), .int .u64 (L3 0)])), (48, (.agg #[.int .u64 (L0 0), .int .u64 (L1 0), .int .u64 (L2 0), .int .u64 (L3 0)])), (49, (.bool true)), (50, (.bool true)), (6, (.bool true))]
        ⟨I.val 0 rfl rfl rfl, I.val 1 rfl rfl rfl, I.val 2 rfl rfl rfl, I.val 3 rfl rfl rfl, I.val 4 rfl rfl rfl, I.val 5 rfl rfl rfl, I.val 6 rfl rfl rfl, I.val 7 rfl rfl rfl, I.val 8 rfl rfl rfl, I.val 9 rfl rfl rfl, I.val 10 rfl rfl rfl, I.val 11 rfl rfl rfl, trivial⟩ rfl]
      have sW4 : W3.heap.size ≤ W4.heap.size := I.below.size
      replace OA := I.keep OA (by repeat' (first | exact trivial | refine Off.v ?_ | refine Off.k ?_ | refine Off.b ?_ | refine Off.p ?_ | refine Off.s ?_ ?_ | omega))
      replace OB := I.keep OB (by repeat' (first | exact trivial | refine Off.v ?_ | refine Off.k ?_ | refine Off.b ?_ | refine Off.p ?_ | refine Off.s ?_ ?_ | omega))
      replace OC := I.keep OC (by repeat' (first | exact trivial | refine Off.v ?_ | refine Off.k ?_ | refine Off.b ?_ | refine Off.p ?_ | refine Off.s ?_ ?_ | omega))
      replace o7 := I.keep o7 (by repeat' (first | exact trivial | refine Off.v ?_ | refine Off.k ?_ | refine Off.b ?_ | refine Off.p ?_ | refine Off.s ?_ ?_ | omega))
      have hW4 : Below w.heap.size w W4 := then_ hW3 I.below hW3.size
      clear I
      simp only [List.foldl_cons, List.foldl_nil, List.setIfInBounds_toArray, List.set_cons_zero, List.set_cons_succ]
      go_wp2
      go_ret
      exact ⟨rfl, hW4⟩
    · have hpos : 0 < g := by omega
      have EG := eq_no fg h0
      have SG1 := fun w => sign_b g fg w
      rw [show sgnZ g = 1 by unfold sgnZ; split <;> (try split) <;> omega] at SG1
      have SG := Lib.hid SG1
      obtain ⟨qa, ra, ea, QA⟩ := div_all z0 g f0 fg
      obtain ⟨qb, rb, eb, QB⟩ := div_all z1 g f1 fg
      have hra := gcd_rest hg h0 QA
      have hrb := gcd_rest' hg h0 QB
      have D1 := Lib.hid QA.1
      have D2 := Lib.hid QB.1
      subst hra hrb
      clear SG1 QA QB
      refine region_memo_f (B := W2.heap.size) (L := .val (.agg #[.int .u64 (L0 g), .int .u64 (L1 g), .int .u64 (L2 g), .int .u64 (L3 g)]) :: .val (.agg #[.int .u64 0, .int .u64 0, .int .u64 0, .int .u64 0]) :: .val (.bool false) :: []) (by kernel_rfl) (Nat.le_refl _) ((by exact trivial))
        ⟨fun a w R => ld24 (R.slot 7 rfl) (R.keep o7 (by repeat' (first | exact trivial | refine Off.v ?_ | refine Off.k ?_ | refine Off.b ?_ | refine Off.p ?_ | refine Off.s ?_ ?_ | omega))), fun a w R => bld0, fun a w R => eqw (R.val 0 rfl rfl rfl (by kernel_rfl)) (R.val 1 rfl rfl rfl (by kernel_rfl)) EG, trivial⟩ (fun a1 W3 I => ?_)
      rw [I.act [(37, (.agg #[.int .u64 (L0 g), .int .u64 (L1 g), .int .u64 (L2 g), .int .u64 (L3 g)])), (38, (.agg #[.int .u64 0, .int .u64 0, .int .u64 0, .int .u64 0])), (39, (.bool false))]
        ⟨I.val 0 rfl rfl rfl, I.val 1 rfl rfl rfl, I.val 2 rfl rfl rfl, trivial⟩ rfl]
      have sW3 : W2.heap.size ≤ W3.heap.size := I.below.size
      replace OA := I.keep OA (by repeat' (first | exact trivial | refine Off.v ?_ | refine Off.k ?_ | refine Off.b ?_ | refine Off.p ?_ | refine Off.s ?_ ?_ | omega))
      replace OB := I.keep OB (by repeat' (first | exact trivial | refine Off.v ?_ | refine Off.k ?_ | refine Off.b ?_ | refine Off.p ?_ | refine Off.s ?_ ?_ | omega))
      replace OC := I.keep OC (by repeat' (first | exact trivial | refine Off.v ?_ | refine Off.k ?_ | refine Off.b ?_ | refine Off.p ?_ | refine Off.s ?_ ?_ | omega))
      replace o7 := I.keep o7 (by repeat' (first | exact trivial | refine Off.v ?_ | refine Off.k ?_ | refine Off.b ?_ | refine Off.p ?_ | refine Off.s ?_ ?_ | omega))
      have hW3 : Below w.heap.size w W3 := then_ hW2 I.below hW2.size
      clear I
      simp only [List.foldl_cons, List.foldl_nil, List.setIfInBounds_toArray, List.set_cons_zero, List.set_cons_succ]
      clear EG
      go_upto_region 6 with fail
      refine region_memo_f (B := W3.heap.size) (L := .val (.agg #[.int .u64 (L0 z0), .int .u64 (L1 z0), .int .u64 (L2 z0), .int .u64 (L3 z0)]) :: .val (.agg #[.int .u64 (L0 g), .int .u64 (L1 g), .int .u64 (L2 g), .int .u64 (L3 g)]) :: .val (.tuple #[(.agg #[.int .u64 (L0 qa), .int .u64 (L1 qa), .int .u64 (L2 qa), .int .u64 (L3 qa)]), (.agg #[.int .u64 (L0 0), .int .u64 (L1 0), .int .u64 (L2 0), .int .u64 (L3 0)]), (.int .i64 ea)]) :: .val (.tuple #[(.agg #[.int .u64 (L0 qa), .int .u64 (L1 qa), .int .u64 (L2 qa), .int .u64 (L3 qa)]), (.agg #[.int .u64 (L0 0), .int .u64 (L1 0), .int .u64 (L2 0), .int .u64 (L3 0)]), (.int .i64 ea)]) :: .val (.agg #[.int .u64 (L0 qa), .int .u64 (L1 qa), .int .u64 (L2 qa), .int .u64 (L3 qa)]) :: .val (.agg #[.int .u64 (L0 0), .int .u64 (L1 0), .int .u64 (L2 0), .int .u64 (L3 0)]) :: .val (.int .i64 ea) :: .blk 24 4 :: .blk 24 4 :: .put 9 24 #[.int .u64 (L0 qa), .int .u64 (L1 qa), .int .u64 (L2 qa), .int .u64 (L3 qa)] :: .put 10 24 #[.int .u64 (L0 0), .int .u64 (L1 0), .int .u64 (L2 0), .int .u64 (L3 0)] :: .val (.int .i64 ea) :: []) (by kernel_rfl) (Nat.le_refl _) ((by exact trivial))
        ⟨fun a w R => ld24 (R.slot 3 rfl) (R.keep OA (by repeat' (first | exact trivial | refine Off.v ?_ | refine Off.k ?_ | refine Off.b ?_ | refine Off.p ?_ | refine Off.s ?_ ?_ | omega))), fun a w R => ld24 (R.slot 7 rfl) (R.keep o7 (by repeat' (first | exact trivial | refine Off.v ?_ | refine Off.k ?_ | refine Off.b ?_ | refine Off.p ?_ | refine Off.s ?_ ?_ | omega))), fun a w R => cl2 en_Div (R.val 0 rfl rfl rfl (by kernel_rfl)) (R.val 1 rfl rfl rfl (by kernel_rfl)) (D1.out _), fun a w R => mv (R.val 2 rfl rfl rfl (by kernel_rfl)), fun a w R => x30 (R.val 3 rfl rfl rfl (by kernel_rfl)), fun a w R => x31 (R.val 3 rfl rfl rfl (by kernel_rfl)), fun a w R => x32 (R.val 3 rfl rfl rfl (by kernel_rfl)), fun a w R => al24, fun a w R => al24, fun a w R => sb24 (R.dep 7 rfl (by kernel_rfl)) (R.val 4 rfl rfl rfl (by kernel_rfl)), fun a w R => sb24 (R.dep 8 rfl (by kernel_rfl)) (R.val 5 rfl rfl rfl (by kernel_rfl)), fun a w R => asg (R.val 6 rfl rfl rfl (by kernel_rfl)), trivial⟩ (fun a1 W4 I => ?_)
      obtain ⟨b9, e9, l9, o9⟩ := I.put 9 rfl rfl
      obtain ⟨b10, e10, l10, o10⟩ := I.put 10 rfl rfl
      have n9_10 := I.far 7 8 rfl rfl (by omega) rfl rfl rfl rfl e9 e10
      rw [I.act [(52, (.agg #[.int .u64 (L0 z0), .int .u64 (L1 z0), .int .u64 (L2 z0), .int .u64 (L3 z0)])), (53, (.agg #[.int .u64 (L0 g), .int .u64 (L1 g), .int .u64 (L2 g), .int .u64 (L3 g)])), (54, (.tuple #[(.agg #[.int .u64 (L0 qa), .int .u64 (L1 qa), .int .u64 (L2 qa), .int .u64 (L3 qa)]), (.agg #[.int .u64 (L0 0), .int .u64 (L1 0), .int .u64 (L2 0), .int .u64 (L3 0)]), (.int .i64 ea)])), (51, (.tuple #[(.agg #[.int .u64 (L0 qa), .int .u64 (L1 qa), .int .u64 (L2 qa), .int .u64 (L3 qa)]), (.agg #[.int .u64 (L0 0), .int .u64 (L1 0), .int .u64 (L2 0), .int .u64 (L3 0)]), (.int .i64 ea)])), (55, (.agg #[.int .u64 (L0 qa), .int .u64 (L1 qa), .int .u64 (L2 qa), .int .u64 (L3 qa)])), (56, (.agg #[.int .u64 (L0 0), .int .u64 (L1 0), .int .u64 (L2 0), .int .u64 (L3 0)])), (57, (.int .i64 ea)), (9, .pointer (some ⟨b9, 0, none⟩)), (10, .pointer (some ⟨b10, 0, none⟩)), (11, (.int .i64 ea))]
        ⟨I.val 0 rfl rfl rfl, I.val 1 rfl rfl rfl, I.val 2 rfl rfl rfl, I.val 3 rfl rfl rfl, I.val 4 rfl rfl rfl, I.val 5 rfl rfl rfl, I.val 6 rfl rfl rfl, e9, e10, I.val 11 rfl rfl rfl, trivial⟩ rfl]
      change W3.heap.size ≤ b9 at l9
      change W3.heap.size ≤ b10 at l10
      have sW4 : W3.heap.size ≤ W4.heap.size := I.below.size
      replace OA := I.keep OA (by repeat' (first | exact trivial | refine Off.v ?_ | refine Off.k ?_ | refine Off.b ?_ | refine Off.p ?_ | refine Off.s ?_ ?_ | omega))
      replace OB := I.keep OB (by repeat' (first | exact trivial | refine Off.v ?_ | refine Off.k ?_ | refine Off.b ?_ | refine Off.p ?_ | refine Off.s ?_ ?_ | omega))
      replace OC := I.keep OC (by repeat' (first | exact trivial | refine Off.v ?_ | refine Off.k ?_ | refine Off.b ?_ | refine Off.p ?_ | refine Off.s ?_ ?_ | omega))
      replace o7 := I.keep o7 (by repeat' (first | exact trivial | refine Off.v ?_ | refine Off.k ?_ | refine Off.b ?_ | refine Off.p ?_ | refine Off.s ?_ ?_ | omega))
      have hW4 : Below w.heap.size w W4 := then_ hW3 I.below hW3.size
      clear e9 e10
      clear I
      simp only [List.foldl_cons, List.foldl_nil, List.setIfInBounds_toArray, List.set_cons_zero, List.set_cons_succ]
      go_upto_region 7 with fail
      refine region_memo_f (B := W4.heap.size) (L := .val (.agg #[.int .u64 (L0 z1), .int .u64 (L1 z1), .int .u64 (L2 z1), .int .u64 (L3 z1)]) :: .val (.agg #[.int .u64 (L0 g), .int .u64 (L1 g), .int .u64 (L2 g), .int .u64 (L3 g)]) :: .val (.tuple #[(.agg #[.int .u64 (L0 qb), .int .u64 (L1 qb), .int .u64 (L2 qb), .int .u64 (L3 qb)]), (.agg #[.int .u64 (L0 0), .int .u64 (L1 0), .int .u64 (L2 0), .int .u64 (L3 0)]), (.int .i64 eb)]) :: .val (.tuple #[(.agg #[.int .u64 (L0 qb), .int .u64 (L1 qb), .int .u64 (L2 qb), .int .u64 (L3 qb)]), (.agg #[.int .u64 (L0 0), .int .u64 (L1 0), .int .u64 (L2 0), .int .u64 (L3 0)]), (.int .i64 eb)]) :: .val (.agg #[.int .u64 (L0 qb), .int .u64 (L1 qb), .int .u64 (L2 qb), .int .u64 (L3 qb)]) :: .val (.agg #[.int .u64 (L0 0), .int .u64 (L1 0), .int .u64 (L2 0), .int .u64 (L3 0)]) :: .val (.int .i64 eb) :: .blk 24 4 :: .blk 24 4 :: .put 12 24 #[.int .u64 (L0 qb), .int .u64 (L1 qb), .int .u64 (L2 qb), .int .u64 (L3 qb)] :: .put 13 24 #[.int .u64 (L0 0), .int .u64 (L1 0), .int .u64 (L2 0), .int .u64 (L3 0)] :: .val (.int .i64 eb) :: []) (by kernel_rfl) (Nat.le_refl _) ((by exact trivial))
        ⟨fun a w R => ld24 (R.slot 4 rfl) (R.keep OB (by repeat' (first | exact trivial | refine Off.v ?_ | refine Off.k ?_ | refine Off.b ?_ | refine Off.p ?_ | refine Off.s ?_ ?_ | omega))), fun a w R => ld24 (R.slot 7 rfl) (R.keep o7 (by repeat' (first | exact trivial | refine Off.v ?_ | refine Off.k ?_ | refine Off.b ?_ | refine Off.p ?_ | refine Off.s ?_ ?_ | omega))), fun a w R => cl2 en_Div (R.val 0 rfl rfl rfl (by kernel_rfl)) (R.val 1 rfl rfl rfl (by kernel_rfl)) (D2.out _), fun a w R => mv (R.val 2 rfl rfl rfl (by kernel_rfl)), fun a w R => x30 (R.val 3 rfl rfl rfl (by kernel_rfl)), fun a w R => x31 (R.val 3 rfl rfl rfl (by kernel_rfl)), fun a w R => x32 (R.val 3 rfl rfl rfl (by kernel_rfl)), fun a w R => al24, fun a w R => al24, fun a w R => sb24 (R.dep 7 rfl (by kernel_rfl)) (R.val 4 rfl rfl rfl (by kernel_rfl)), fun a w R => sb24 (R.dep 8 rfl (by kernel_rfl)) (R.val 5 rfl rfl rfl (by kernel_rfl)), fun a w R => asg (R.val 6 rfl rfl rfl (by kernel_rfl)), trivial⟩ (fun a1 W5 I => ?_)
      obtain ⟨b12, e12, l12, o12⟩ := I.put 9 rfl rfl
      obtain ⟨b13, e13, l13, o13⟩ := I.put 10 rfl rfl
      have n12_13 := I.far 7 8 rfl rfl (by omega) rfl rfl rfl rfl e12 e13
      rw [I.act [(59, (.agg #[.int .u64 (L0 z1), .int .u64 (L1 z1), .int .u64 (L2 z1), .int .u64 (L3 z1)])), (60, (.agg #[.int .u64 (L0 g), .int .u64 (L1 g), .int .u64 (L2 g), .int .u64 (L3 g)])), (61, (.tuple #[(.agg #[.int .u64 (L0 qb), .int .u64 (L1 qb), .int .u64 (L2 qb), .int .u64 (L3 qb)]), (.agg #[.int .u64 (L0 0), .int .u64 (L1 0), .int .u64 (L2 0), .int .u64 (L3 0)]), (.int .i64 eb)])), (58, (.tuple #[(.agg #[.int .u64 (L0 qb), .int .u64 (L1 qb), .int .u64 (L2 qb), .int .u64 (L3 qb)]), (.agg #[.int .u64 (L0 0), .int .u64 (L1 0), .int .u64 (L2 0), .int .u64 (L3 0)]), (.int .i64 eb)])), (62, (.agg #[.int .u64 (L0 qb), .int .u64 (L1 qb), .int .u64 (L2 qb), .int .u64 (L3 qb)])), (63, (.agg #[.int .u64 (L0 0), .int .u64 (L1 0), .int .u64 (L2 0), .int .u64 (L3 0)])), (64, (.int .i64 eb)), (12, .pointer (some ⟨b12, 0, none⟩)), (13, .pointer (some ⟨b13, 0, none⟩)), (14, (.int .i64 eb))]
        ⟨I.val 0 rfl rfl rfl, I.val 1 rfl rfl rfl, I.val 2 rfl rfl rfl, I.val 3 rfl rfl rfl, I.val 4 rfl rfl rfl, I.val 5 rfl rfl rfl, I.val 6 rfl rfl rfl, e12, e13, I.val 11 rfl rfl rfl, trivial⟩ rfl]
      change W4.heap.size ≤ b12 at l12
      change W4.heap.size ≤ b13 at l13
      have sW5 : W4.heap.size ≤ W5.heap.size := I.below.size
      replace OA := I.keep OA (by repeat' (first | exact trivial | refine Off.v ?_ | refine Off.k ?_ | refine Off.b ?_ | refine Off.p ?_ | refine Off.s ?_ ?_ | omega))
      replace OB := I.keep OB (by repeat' (first | exact trivial | refine Off.v ?_ | refine Off.k ?_ | refine Off.b ?_ | refine Off.p ?_ | refine Off.s ?_ ?_ | omega))
      replace OC := I.keep OC (by repeat' (first | exact trivial | refine Off.v ?_ | refine Off.k ?_ | refine Off.b ?_ | refine Off.p ?_ | refine Off.s ?_ ?_ | omega))
      replace o7 := I.keep o7 (by repeat' (first | exact trivial | refine Off.v ?_ | refine Off.k ?_ | refine Off.b ?_ | refine Off.p ?_ | refine Off.s ?_ ?_ | omega))
      replace o10 := I.keep o10 (by repeat' (first | exact trivial | refine Off.v ?_ | refine Off.k ?_ | refine Off.b ?_ | refine Off.p ?_ | refine Off.s ?_ ?_ | omega))
      have hW5 : Below w.heap.size w W5 := then_ hW4 I.below hW4.size
      clear e12 e13
      clear I
      simp only [List.foldl_cons, List.foldl_nil, List.setIfInBounds_toArray, List.set_cons_zero, List.set_cons_succ]
      clear D1 D2 o9 o12
      go_upto_region 8 with fail
      by_cases hc : z2 = 0
      · subst hc
        clear hg fg f0 f1 f2
        refine region_memo_f (B := W5.heap.size) (L := .val (.agg #[.int .u64 (L0 g), .int .u64 (L1 g), .int .u64 (L2 g), .int .u64 (L3 g)]) :: .val (.int .i64 1) :: .val (.bool false) :: .val (.bool false) :: .val (.agg #[.int .u64 (L0 0), .int .u64 (L1 0), .int .u64 (L2 0), .int .u64 (L3 0)]) :: .val (.agg #[.int .u64 0, .int .u64 0, .int .u64 0, .int .u64 0]) :: .val (.bool false) :: .val (.bool false) :: .val (.bool false) :: .val (.agg #[.int .u64 (L0 0), .int .u64 (L1 0), .int .u64 (L2 0), .int .u64 (L3 0)]) :: .val (.agg #[.int .u64 0, .int .u64 0, .int .u64 0, .int .u64 0]) :: .val (.bool false) :: .val (.bool false) :: .val (.bool false) :: .val (.agg #[.int .u64 (L0 0), .int .u64 (L1 0), .int .u64 (L2 0), .int .u64 (L3 0)]) :: .val (.agg #[.int .u64 0, .int .u64 0, .int .u64 0, .int .u64 0]) :: .val (.bool true) :: .val (.bool true) :: []) (by kernel_rfl) (Nat.le_refl _) ((by exact trivial))
          ⟨fun a w R => ld24 (R.slot 7 rfl) (R.keep o7 (by repeat' (first | exact trivial | refine Off.v ?_ | refine Off.k ?_ | refine Off.b ?_ | refine Off.p ?_ | refine Off.s ?_ ?_ | omega))), fun a w R => cl1 en_Sign (R.val 0 rfl rfl rfl (by kernel_rfl)) (SG.out _), fun a w R => ltk (R.val 1 rfl rfl rfl (by kernel_rfl)) (Tryd.underlying3) rfl, fun a w R => mv (R.val 2 rfl rfl rfl (by kernel_rfl)), fun a w R => ld24 (R.slot 10 rfl) (R.keep o10 (by repeat' (first | exact trivial | refine Off.v ?_ | refine Off.k ?_ | refine Off.b ?_ | refine Off.p ?_ | refine Off.s ?_ ?_ | omega))), fun a w R => bld0, fun a w R => nqw (R.val 4 rfl rfl rfl (by kernel_rfl)) (R.val 5 rfl rfl rfl (by kernel_rfl)) eq_z0, fun a w R => pickn (R.val 3 rfl rfl rfl (by kernel_rfl)) (R.val 6 rfl rfl rfl (by kernel_rfl)), fun a w R => mv (R.val 7 rfl rfl rfl (by kernel_rfl)), fun a w R => ld24 (R.slot 13 rfl) (R.keep o13 (by repeat' (first | exact trivial | refine Off.v ?_ | refine Off.k ?_ | refine Off.b ?_ | refine Off.p ?_ | refine Off.s ?_ ?_ | omega))), fun a w R => bld0, fun a w R => nqw (R.val 9 rfl rfl rfl (by kernel_rfl)) (R.val 10 rfl rfl rfl (by kernel_rfl)) eq_z0, fun a w R => pickn (R.val 8 rfl rfl rfl (by kernel_rfl)) (R.val 11 rfl rfl rfl (by kernel_rfl)), fun a w R => mv (R.val 12 rfl rfl rfl (by kernel_rfl)), fun a w R => ld24 (R.slot 5 rfl) (R.keep OC (by repeat' (first | exact trivial | refine Off.v ?_ | refine Off.k ?_ | refine Off.b ?_ | refine Off.p ?_ | refine Off.s ?_ ?_ | omega))), fun a w R => bld0, fun a w R => eqw (R.val 14 rfl rfl rfl (by kernel_rfl)) (R.val 15 rfl rfl rfl (by kernel_rfl)) eq_z0, fun a w R => pickn (R.val 13 rfl rfl rfl (by kernel_rfl)) (R.val 16 rfl rfl rfl (by kernel_rfl)), trivial⟩ (fun a1 W6 I => ?_)
        rw [I.act [(65, (.agg #[.int .u64 (L0 g), .int .u64 (L1 g), .int .u64 (L2 g), .int .u64 (L3 g)])), (66, (.int .i64 1)), (67, (.bool false)), (68, (.bool false)), (69, (.agg #[.int .u64 (L0 0), .int .u64 (L1 0), .int .u64 (L2 0), .int .u64 (L3 0)])), (70, (.agg #[.int .u64 0, .int .u64 0, .int .u64 0, .int .u64 0])), (71, (.bool false)), (72, (.bool false)), (73, (.bool false)), (74, (.agg #[.int .u64 (L0 0), .int .u64 (L1 0), .int .u64 (L2 0), .int .u64 (L3 0)])), (75, (.agg #[.int .u64 0, .int .u64 0, .int .u64 0, .int .u64 0])), (76, (.bool false)), (77, (.bool false)), (78, (.bool false)), (79, (.agg #[.int .u64 (L0 0), .int .u64 (L1 0), .int .u64 (L2 0), .int .u64 (L3 0)])), (80, (.agg #[.int .u64 0, .int .u64 0, .int .u64 0, .int .u64 0])), (81, (.bool true)), (82, (.bool true))]
          ⟨I.val 0 rfl rfl rfl, I.val 1 rfl rfl rfl, I.val 2 rfl rfl rfl, I.val 3 rfl rfl rfl, I.val 4 rfl rfl rfl, I.val 5 rfl rfl rfl, I.val 6 rfl rfl rfl, I.val 7 rfl rfl rfl, I.val 8 rfl rfl rfl, I.val 9 rfl rfl rfl, I.val 10 rfl rfl rfl, I.val 11 rfl rfl rfl, I.val 12 rfl rfl rfl, I.val 13 rfl rfl rfl, I.val 14 rfl rfl rfl, I.val 15 rfl rfl rfl, I.val 16 rfl rfl rfl, I.val 17 rfl rfl rfl, trivial⟩ rfl]
        have sW6 : W5.heap.size ≤ W6.heap.size := I.below.size
        replace OA := I.keep OA (by repeat' (first | exact trivial | refine Off.v ?_ | refine Off.k ?_ | refine Off.b ?_ | refine Off.p ?_ | refine Off.s ?_ ?_ | omega))
        replace OB := I.keep OB (by repeat' (first | exact trivial | refine Off.v ?_ | refine Off.k ?_ | refine Off.b ?_ | refine Off.p ?_ | refine Off.s ?_ ?_ | omega))
        replace OC := I.keep OC (by repeat' (first | exact trivial | refine Off.v ?_ | refine Off.k ?_ | refine Off.b ?_ | refine Off.p ?_ | refine Off.s ?_ ?_ | omega))
        replace o7 := I.keep o7 (by repeat' (first | exact trivial | refine Off.v ?_ | refine Off.k ?_ | refine Off.b ?_ | refine Off.p ?_ | refine Off.s ?_ ?_ | omega))
        replace o10 := I.keep o10 (by repeat' (first | exact trivial | refine Off.v ?_ | refine Off.k ?_ | refine Off.b ?_ | refine Off.p ?_ | refine Off.s ?_ ?_ | omega))
        replace o13 := I.keep o13 (by repeat' (first | exact trivial | refine Off.v ?_ | refine Off.k ?_ | refine Off.b ?_ | refine Off.p ?_ | refine Off.s ?_ ?_ | omega))
        have hW6 : Below w.heap.size w W6 := then_ hW5 I.below hW5.size
        clear I
        simp only [List.foldl_cons, List.foldl_nil, List.setIfInBounds_toArray, List.set_cons_zero, List.set_cons_succ]
        go_upto_region 9 with fail
        refine region_memo_f (B := W6.heap.size) (L := .val (.agg #[.int .u64 (L0 g), .int .u64 (L1 g), .int .u64 (L2 g), .int .u64 (L3 g)]) :: .val (.int .i64 1) :: .val (.bool true) :: .val (.bool true) :: .val (.agg #[.int .u64 (L0 0), .int .u64 (L1 0), .int .u64 (L2 0), .int .u64 (L3 0)]) :: .val (.agg #[.int .u64 (L0 0), .int .u64 (L1 0), .int .u64 (L2 0), .int .u64 (L3 0)]) :: .val (.bool true) :: .val (.bool true) :: .val (.bool true) :: .val (.agg #[.int .u64 (L0 0), .int .u64 (L1 0), .int .u64 (L2 0), .int .u64 (L3 0)]) :: .val (.agg #[.int .u64 0, .int .u64 0, .int .u64 0, .int .u64 0]) :: .val (.bool true) :: .val (.bool true) :: .val (.bool true) :: []) (by kernel_rfl) (Nat.le_refl _) ((by exact trivial))
          ⟨fun a w R => ld24 (R.slot 7 rfl) (R.keep o7 (by repeat' (first | exact trivial | refine Off.v ?_ | refine Off.k ?_ | refine Off.b ?_ | refine Off.p ?_ | refine Off.s ?_ ?_ | omega))), fun a w R => cl1 en_Sign (R.val 0 rfl rfl rfl (by kernel_rfl)) (SG.out _), fun a w R => gek (R.val 1 rfl rfl rfl (by kernel_rfl)) (Tryd.underlying3) rfl, fun a w R => mv (R.val 2 rfl rfl rfl (by kernel_rfl)), fun a w R => ld24 (R.slot 10 rfl) (R.keep o10 (by repeat' (first | exact trivial | refine Off.v ?_ | refine Off.k ?_ | refine Off.b ?_ | refine Off.p ?_ | refine Off.s ?_ ?_ | omega))), fun a w R => ld24 (R.slot 13 rfl) (R.keep o13 (by repeat' (first | exact trivial | refine Off.v ?_ | refine Off.k ?_ | refine Off.b ?_ | refine Off.p ?_ | refine Off.s ?_ ?_ | omega))), fun a w R => eqw (R.val 4 rfl rfl rfl (by kernel_rfl)) (R.val 5 rfl rfl rfl (by kernel_rfl)) (eq_i 0), fun a w R => pickt (R.val 3 rfl rfl rfl (by kernel_rfl)) (R.val 6 rfl rfl rfl (by kernel_rfl)), fun a w R => mv (R.val 7 rfl rfl rfl (by kernel_rfl)), fun a w R => ld24 (R.slot 10 rfl) (R.keep o10 (by repeat' (first | exact trivial | refine Off.v ?_ | refine Off.k ?_ | refine Off.b ?_ | refine Off.p ?_ | refine Off.s ?_ ?_ | omega))), fun a w R => bld0, fun a w R => eqw (R.val 9 rfl rfl rfl (by kernel_rfl)) (R.val 10 rfl rfl rfl (by kernel_rfl)) eq_z0, fun a w R => pickt (R.val 8 rfl rfl rfl (by kernel_rfl)) (R.val 11 rfl rfl rfl (by kernel_rfl)), fun a w R => asg (R.val 12 rfl rfl rfl (by kernel_rfl)), trivial⟩ (fun a1 W7 I => ?_)
        rw [I.act [(83, (.agg #[.int .u64 (L0 g), .int .u64 (L1 g), .int .u64 (L2 g), .int .u64 (L3 g)])), (84, (.int .i64 1)), (85, (.bool true)), (86, (.bool true)), (87, (.agg #[.int .u64 (L0 0), .int .u64 (L1 0), .int .u64 (L2 0), .int .u64 (L3 0)])), (88, (.agg #[.int .u64 (L0 0), .int .u64 (L1 0), .int .u64 (L2 0), .int .u64 (L3 0)])), (89, (.bool true)), (90, (.bool true)), (91, (.bool true)), (92, (.agg #[.int .u64 (L0 0), .int .u64 (L1 0), .int .u64 (L2 0), .int .u64 (L3 0)])), (93, (.agg #[.int .u64 0, .int .u64 0, .int .u64 0, .int .u64 0])), (94, (.bool true)), (95, (.bool true)), (6, (.bool true))]
          ⟨I.val 0 rfl rfl rfl, I.val 1 rfl rfl rfl, I.val 2 rfl rfl rfl, I.val 3 rfl rfl rfl, I.val 4 rfl rfl rfl, I.val 5 rfl rfl rfl, I.val 6 rfl rfl rfl, I.val 7 rfl rfl rfl, I.val 8 rfl rfl rfl, I.val 9 rfl rfl rfl, I.val 10 rfl rfl rfl, I.val 11 rfl rfl rfl, I.val 12 rfl rfl rfl, I.val 13 rfl rfl rfl, trivial⟩ rfl]
        have sW7 : W6.heap.size ≤ W7.heap.size := I.below.size
        replace OA := I.keep OA (by repeat' (first | exact trivial | refine Off.v ?_ | refine Off.k ?_ | refine Off.b ?_ | refine Off.p ?_ | refine Off.s ?_ ?_ | omega))
        replace OB := I.keep OB (by repeat' (first | exact trivial | refine Off.v ?_ | refine Off.k ?_ | refine Off.b ?_ | refine Off.p ?_ | refine Off.s ?_ ?_ | omega))
        replace OC := I.keep OC (by repeat' (first | exact trivial | refine Off.v ?_ | refine Off.k ?_ | refine Off.b ?_ | refine Off.p ?_ | refine Off.s ?_ ?_ | omega))
        replace o7 := I.keep o7 (by repeat' (first | exact trivial | refine Off.v ?_ | refine Off.k ?_ | refine Off.b ?_ | refine Off.p ?_ | refine Off.s ?_ ?_ | omega))
        replace o10 := I.keep o10 (by repeat' (first | exact trivial | refine Off.v ?_ | refine Off.k ?_ | refine Off.b ?_ | refine Off.p ?_ | refine Off.s ?_ ?_ | omega))
        replace o13 := I.keep o13 (by repeat' (first | exact trivial | refine Off.v ?_ | refine Off.k ?_ | refine Off.b ?_ | refine Off.p ?_ | refine Off.s ?_ ?_ | omega))
        have hW7 : Below w.heap.size w W7 := then_ hW6 I.below hW6.size
        clear I
        simp only [List.foldl_cons, List.foldl_nil, List.setIfInBounds_toArray, List.set_cons_zero, List.set_cons_succ]
        go_wp2
        go_ret
        exact ⟨rfl, hW7⟩
      · have EC := eq_no f2 hc
        obtain ⟨q1, r1, e1, K1⟩ := div_all z0 z2 f0 f2
        obtain ⟨q2, r2, e2, K2⟩ := div_all z1 z2 f1 f2
        obtain ⟨q3, r3, e3, K3⟩ := div_all g z2 fg f2
        have HV1 := gcd_share hg hc K1 K2 K3
        have HV := Lib.hid HV1
        have D1 := Lib.hid K1.1
        have D2 := Lib.hid K2.1
        have D3 := Lib.hid K3.1
        have fr1 := K1.fit f2
        have fr2 := K2.fit f2
        clear K1 K2 K3 HV1 hg fg f0 f1 f2 hc
        refine region_memo_f (B := W5.heap.size) (L := .val (.agg #[.int .u64 (L0 g), .int .u64 (L1 g), .int .u64 (L2 g), .int .u64 (L3 g)]) :: .val (.int .i64 1) :: .val (.bool false) :: .val (.bool false) :: .val (.agg #[.int .u64 (L0 0), .int .u64 (L1 0), .int .u64 (L2 0), .int .u64 (L3 0)]) :: .val (.agg #[.int .u64 0, .int .u64 0, .int .u64 0, .int .u64 0]) :: .val (.bool false) :: .val (.bool false) :: .val (.bool false) :: .val (.agg #[.int .u64 (L0 0), .int .u64 (L1 0), .int .u64 (L2 0), .int .u64 (L3 0)]) :: .val (.agg #[.int .u64 0, .int .u64 0, .int .u64 0, .int .u64 0]) :: .val (.bool false) :: .val (.bool false) :: .val (.bool false) :: .val (.agg #[.int .u64 (L0 z2), .int .u64 (L1 z2), .int .u64 (L2 z2), .int .u64 (L3 z2)]) :: .val (.agg #[.int .u64 0, .int .u64 0, .int .u64 0, .int .u64 0]) :: .val (.bool false) :: .val (.bool false) :: []) (by kernel_rfl) (Nat.le_refl _) ((by exact trivial))
          ⟨fun a w R => ld24 (R.slot 7 rfl) (R.keep o7 (by repeat' (first | exact trivial | refine Off.v ?_ | refine Off.k ?_ | refine Off.b ?_ | refine Off.p ?_ | refine Off.s ?_ ?_ | omega))), fun a w R => cl1 en_Sign (R.val 0 rfl rfl rfl (by kernel_rfl)) (SG.out _), fun a w R => ltk (R.val 1 rfl rfl rfl (by kernel_rfl)) (Tryd.underlying3) rfl, fun a w R => mv (R.val 2 rfl rfl rfl (by kernel_rfl)), fun a w R => ld24 (R.slot 10 rfl) (R.keep o10 (by repeat' (first | exact trivial | refine Off.v ?_ | refine Off.k ?_ | refine Off.b ?_ | refine Off.p ?_ | refine Off.s ?_ ?_ | omega))), fun a w R => bld0, fun a w R => nqw (R.val 4 rfl rfl rfl (by kernel_rfl)) (R.val 5 rfl rfl rfl (by kernel_rfl)) eq_z0, fun a w R => pickn (R.val 3 rfl rfl rfl (by kernel_rfl)) (R.val 6 rfl rfl rfl (by kernel_rfl)), fun a w R => mv (R.val 7 rfl rfl rfl (by kernel_rfl)), fun a w R => ld24 (R.slot 13 rfl) (R.keep o13 (by repeat' (first | exact trivial | refine Off.v ?_ | refine Off.k ?_ | refine Off.b ?_ | refine Off.p ?_ | refine Off.s ?_ ?_ | omega))), fun a w R => bld0, fun a w R => nqw (R.val 9 rfl rfl rfl (by kernel_rfl)) (R.val 10 rfl rfl rfl (by kernel_rfl)) eq_z0, fun a w R => pickn (R.val 8 rfl rfl rfl (by kernel_rfl)) (R.val 11 rfl rfl rfl (by kernel_rfl)), fun a w R => mv (R.val 12 rfl rfl rfl (by kernel_rfl)), fun a w R => ld24 (R.slot 5 rfl) (R.keep OC (by repeat' (first | exact trivial | refine Off.v ?_ | refine Off.k ?_ | refine Off.b ?_ | refine Off.p ?_ | refine Off.s ?_ ?_ | omega))), fun a w R => bld0, fun a w R => eqw (R.val 14 rfl rfl rfl (by kernel_rfl)) (R.val 15 rfl rfl rfl (by kernel_rfl)) EC, fun a w R => pickn (R.val 13 rfl rfl rfl (by kernel_rfl)) (R.val 16 rfl rfl rfl (by kernel_rfl)), trivial⟩ (fun a1 W6 I => ?_)
        rw [I.act [(65, (.agg #[.int .u64 (L0 g), .int .u64 (L1 g), .int .u64 (L2 g), .int .u64 (L3 g)])), (66, (.int .i64 1)), (67, (.bool false)), (68, (.bool false)), (69, (.agg #[.int .u64 (L0 0), .int .u64 (L1 0), .int .u64 (L2 0), .int .u64 (L3 0)])), (70, (.agg #[.int .u64 0, .int .u64 0, .int .u64 0, .int .u64 0])), (71, (.bool false)), (72, (.bool false)), (73, (.bool false)), (74, (.agg #[.int .u64 (L0 0), .int .u64 (L1 0), .int .u64 (L2 0), .int .u64 (L3 0)])), (75, (.agg #[.int .u64 0, .int .u64 0, .int .u64 0, .int .u64 0])), (76, (.bool false)), (77, (.bool false)), (78, (.bool false)), (79, (.agg #[.int .u64 (L0 z2), .int .u64 (L1 z2), .int .u64 (L2 z2), .int .u64 (L3 z2)])), (80, (.agg #[.int .u64 0, .int .u64 0, .int .u64 0, .int .u64 0])), (81, (.bool false)), (82, (.bool false))]
          ⟨I.val 0 rfl rfl rfl, I.val 1 rfl rfl rfl, I.val 2 rfl rfl rfl, I.val 3 rfl rfl rfl, I.val 4 rfl rfl rfl, I.val 5 rfl rfl rfl, I.val 6 rfl rfl rfl, I.val 7 rfl rfl rfl, I.val 8 rfl rfl rfl, I.val 9 rfl rfl rfl, I.val 10 rfl rfl rfl, I.val 11 rfl rfl rfl, I.val 12 rfl rfl rfl, I.val 13 rfl rfl rfl, I.val 14 rfl rfl rfl, I.val 15 rfl rfl rfl, I.val 16 rfl rfl rfl, I.val 17 rfl rfl rfl, trivial⟩ rfl]
        have sW6 : W5.heap.size ≤ W6.heap.size := I.below.size
        replace OA := I.keep OA (by repeat' (first | exact trivial | refine Off.v ?_ | refine Off.k ?_ | refine Off.b ?_ | refine Off.p ?_ | refine Off.s ?_ ?_ | omega))
        replace OB := I.keep OB (by repeat' (first | exact trivial | refine Off.v ?_ | refine Off.k ?_ | refine Off.b ?_ | refine Off.p ?_ | refine Off.s ?_ ?_ | omega))
        replace OC := I.keep OC (by repeat' (first | exact trivial | refine Off.v ?_ | refine Off.k ?_ | refine Off.b ?_ | refine Off.p ?_ | refine Off.s ?_ ?_ | omega))
        replace o7 := I.keep o7 (by repeat' (first | exact trivial | refine Off.v ?_ | refine Off.k ?_ | refine Off.b ?_ | refine Off.p ?_ | refine Off.s ?_ ?_ | omega))
        replace o10 := I.keep o10 (by repeat' (first | exact trivial | refine Off.v ?_ | refine Off.k ?_ | refine Off.b ?_ | refine Off.p ?_ | refine Off.s ?_ ?_ | omega))
        replace o13 := I.keep o13 (by repeat' (first | exact trivial | refine Off.v ?_ | refine Off.k ?_ | refine Off.b ?_ | refine Off.p ?_ | refine Off.s ?_ ?_ | omega))
        have hW6 : Below w.heap.size w W6 := then_ hW5 I.below hW5.size
        clear I
        simp only [List.foldl_cons, List.foldl_nil, List.setIfInBounds_toArray, List.set_cons_zero, List.set_cons_succ]
        clear EC o10 o13 SG
        go_upto_region 10 with fail
        refine region_memo_f (B := W6.heap.size) (L := .val (.agg #[.int .u64 (L0 z0), .int .u64 (L1 z0), .int .u64 (L2 z0), .int .u64 (L3 z0)]) :: .val (.agg #[.int .u64 (L0 z2), .int .u64 (L1 z2), .int .u64 (L2 z2), .int .u64 (L3 z2)]) :: .val (.tuple #[(.agg #[.int .u64 (L0 q1), .int .u64 (L1 q1), .int .u64 (L2 q1), .int .u64 (L3 q1)]), (.agg #[.int .u64 (L0 r1), .int .u64 (L1 r1), .int .u64 (L2 r1), .int .u64 (L3 r1)]), (.int .i64 e1)]) :: .val (.tuple #[(.agg #[.int .u64 (L0 q1), .int .u64 (L1 q1), .int .u64 (L2 q1), .int .u64 (L3 q1)]), (.agg #[.int .u64 (L0 r1), .int .u64 (L1 r1), .int .u64 (L2 r1), .int .u64 (L3 r1)]), (.int .i64 e1)]) :: .val (.agg #[.int .u64 (L0 q1), .int .u64 (L1 q1), .int .u64 (L2 q1), .int .u64 (L3 q1)]) :: .val (.agg #[.int .u64 (L0 r1), .int .u64 (L1 r1), .int .u64 (L2 r1), .int .u64 (L3 r1)]) :: .val (.int .i64 e1) :: .blk 24 4 :: .blk 24 4 :: .put 15 24 #[.int .u64 (L0 q1), .int .u64 (L1 q1), .int .u64 (L2 q1), .int .u64 (L3 q1)] :: .put 16 24 #[.int .u64 (L0 r1), .int .u64 (L1 r1), .int .u64 (L2 r1), .int .u64 (L3 r1)] :: .val (.int .i64 e1) :: []) (by kernel_rfl) (Nat.le_refl _) ((by exact trivial))
          ⟨fun a w R => ld24 (R.slot 3 rfl) (R.keep OA (by repeat' (first | exact trivial | refine Off.v ?_ | refine Off.k ?_ | refine Off.b ?_ | refine Off.p ?_ | refine Off.s ?_ ?_ | omega))), fun a w R => ld24 (R.slot 5 rfl) (R.keep OC (by repeat' (first | exact trivial | refine Off.v ?_ | refine Off.k ?_ | refine Off.b ?_ | refine Off.p ?_ | refine Off.s ?_ ?_ | omega))), fun a w R => cl2 en_Div (R.val 0 rfl rfl rfl (by kernel_rfl)) (R.val 1 rfl rfl rfl (by kernel_rfl)) (D1.out _), fun a w R => mv (R.val 2 rfl rfl rfl (by kernel_rfl)), fun a w R => x30 (R.val 3 rfl rfl rfl (by kernel_rfl)), fun a w R => x31 (R.val 3 rfl rfl rfl (by kernel_rfl)), fun a w R => x32 (R.val 3 rfl rfl rfl (by kernel_rfl)), fun a w R => al24, fun a w R => al24, fun a w R => sb24 (R.dep 7 rfl (by kernel_rfl)) (R.val 4 rfl rfl rfl (by kernel_rfl)), fun a w R => sb24 (R.dep 8 rfl (by kernel_rfl)) (R.val 5 rfl rfl rfl (by kernel_rfl)), fun a w R => asg (R.val 6 rfl rfl rfl (by kernel_rfl)), trivial⟩ (fun a1 W7 I => ?_)
        obtain ⟨b15, e15, l15, o15⟩ := I.put 9 rfl rfl
        obtain ⟨b16, e16, l16, o16⟩ := I.put 10 rfl rfl
        have n15_16 := I.far 7 8 rfl rfl (by omega) rfl rfl rfl rfl e15 e16
        rw [I.act [(97, (.agg #[.int .u64 (L0 z0), .int .u64 (L1 z0), .int .u64 (L2 z0), .int .u64 (L3 z0)])), (98, (.agg #[.int .u64 (L0 z2), .int .u64 (L1 z2), .int .u64 (L2 z2), .int .u64 (L3 z2)])), (99, (.tuple #[(.agg #[.int .u64 (L0 q1), .int .u64 (L1 q1), .int .u64 (L2 q1), .int .u64 (L3 q1)]), (.agg #[.int .u64 (L0 r1), .int .u64 (L1 r1), .int .u64 (L2 r1), .int .u64 (L3 r1)]), (.int .i64 e1)])), (96, (.tuple #[(.agg #[.int .u64 (L0 q1), .int .u64 (L1 q1), .int .u64 (L2 q1), .int .u64 (L3 q1)]), (.agg #[.int .u64 (L0 r1), .int .u64 (L1 r1), .int .u64 (L2 r1), .int .u64 (L3 r1)]), (.int .i64 e1)])), (100, (.agg #[.int .u64 (L0 q1), .int .u64 (L1 q1), .int .u64 (L2 q1), .int .u64 (L3 q1)])), (101, (.agg #[.int .u64 (L0 r1), .int .u64 (L1 r1), .int .u64 (L2 r1), .int .u64 (L3 r1)])), (102, (.int .i64 e1)), (15, .pointer (some ⟨b15, 0, none⟩)), (16, .pointer (some ⟨b16, 0, none⟩)), (17, (.int .i64 e1))]
          ⟨I.val 0 rfl rfl rfl, I.val 1 rfl rfl rfl, I.val 2 rfl rfl rfl, I.val 3 rfl rfl rfl, I.val 4 rfl rfl rfl, I.val 5 rfl rfl rfl, I.val 6 rfl rfl rfl, e15, e16, I.val 11 rfl rfl rfl, trivial⟩ rfl]
        change W6.heap.size ≤ b15 at l15
        change W6.heap.size ≤ b16 at l16
        have sW7 : W6.heap.size ≤ W7.heap.size := I.below.size
        replace OA := I.keep OA (by repeat' (first | exact trivial | refine Off.v ?_ | refine Off.k ?_ | refine Off.b ?_ | refine Off.p ?_ | refine Off.s ?_ ?_ | omega))
        replace OB := I.keep OB (by repeat' (first | exact trivial | refine Off.v ?_ | refine Off.k ?_ | refine Off.b ?_ | refine Off.p ?_ | refine Off.s ?_ ?_ | omega))
        replace OC := I.keep OC (by repeat' (first | exact trivial | refine Off.v ?_ | refine Off.k ?_ | refine Off.b ?_ | refine Off.p ?_ | refine Off.s ?_ ?_ | omega))
        replace o7 := I.keep o7 (by repeat' (first | exact trivial | refine Off.v ?_ | refine Off.k ?_ | refine Off.b ?_ | refine Off.p ?_ | refine Off.s ?_ ?_ | omega))
        have hW7 : Below w.heap.size w W7 := then_ hW6 I.below hW6.size
        clear e15 e16
        clear I
        simp only [List.foldl_cons, List.foldl_nil, List.setIfInBounds_toArray, List.set_cons_zero, List.set_cons_succ]
        go_upto_region 11 with fail
        refine region_memo_f (B := W7.heap.size) (L := .val (.agg #[.int .u64 (L0 z1), .int .u64 (L1 z1), .int .u64 (L2 z1), .int .u64 (L3 z1)]) :: .val (.agg #[.int .u64 (L0 z2), .int .u64 (L1 z2), .int .u64 (L2 z2), .int .u64 (L3 z2)]) :: .val (.tuple #[(.agg #[.int .u64 (L0 q2), .int .u64 (L1 q2), .int .u64 (L2 q2), .int .u64 (L3 q2)]), (.agg #[.int .u64 (L0 r2), .int .u64 (L1 r2), .int .u64 (L2 r2), .int .u64 (L3 r2)]), (.int .i64 e2)]) :: .val (.tuple #[(.agg #[.int .u64 (L0 q2), .int .u64 (L1 q2), .int .u64 (L2 q2), .int .u64 (L3 q2)]), (.agg #[.int .u64 (L0 r2), .int .u64 (L1 r2), .int .u64 (L2 r2), .int .u64 (L3 r2)]), (.int .i64 e2)]) :: .val (.agg #[.int .u64 (L0 q2), .int .u64 (L1 q2), .int .u64 (L2 q2), .int .u64 (L3 q2)]) :: .val (.agg #[.int .u64 (L0 r2), .int .u64 (L1 r2), .int .u64 (L2 r2), .int .u64 (L3 r2)]) :: .val (.int .i64 e2) :: .blk 24 4 :: .blk 24 4 :: .put 18 24 #[.int .u64 (L0 q2), .int .u64 (L1 q2), .int .u64 (L2 q2), .int .u64 (L3 q2)] :: .put 19 24 #[.int .u64 (L0 r2), .int .u64 (L1 r2), .int .u64 (L2 r2), .int .u64 (L3 r2)] :: .val (.int .i64 e2) :: []) (by kernel_rfl) (Nat.le_refl _) ((by exact trivial))
          ⟨fun a w R => ld24 (R.slot 4 rfl) (R.keep OB (by repeat' (first | exact trivial | refine Off.v ?_ | refine Off.k ?_ | refine Off.b ?_ | refine Off.p ?_ | refine Off.s ?_ ?_ | omega))), fun a w R => ld24 (R.slot 5 rfl) (R.keep OC (by repeat' (first | exact trivial | refine Off.v ?_ | refine Off.k ?_ | refine Off.b ?_ | refine Off.p ?_ | refine Off.s ?_ ?_ | omega))), fun a w R => cl2 en_Div (R.val 0 rfl rfl rfl (by kernel_rfl)) (R.val 1 rfl rfl rfl (by kernel_rfl)) (D2.out _), fun a w R => mv (R.val 2 rfl rfl rfl (by kernel_rfl)), fun a w R => x30 (R.val 3 rfl rfl rfl (by kernel_rfl)), fun a w R => x31 (R.val 3 rfl rfl rfl (by kernel_rfl)), fun a w R => x32 (R.val 3 rfl rfl rfl (by kernel_rfl)), fun a w R => al24, fun a w R => al24, fun a w R => sb24 (R.dep 7 rfl (by kernel_rfl)) (R.val 4 rfl rfl rfl (by kernel_rfl)), fun a w R => sb24 (R.dep 8 rfl (by kernel_rfl)) (R.val 5 rfl rfl rfl (by kernel_rfl)), fun a w R => asg (R.val 6 rfl rfl rfl (by kernel_rfl)), trivial⟩ (fun a1 W8 I => ?_)
        obtain ⟨b18, e18, l18, o18⟩ := I.put 9 rfl rfl
        obtain ⟨b19, e19, l19, o19⟩ := I.put 10 rfl rfl
        have n18_19 := I.far 7 8 rfl rfl (by omega) rfl rfl rfl rfl e18 e19
        rw [I.act [(104, (.agg #[.int .u64 (L0 z1), .int .u64 (L1 z1), .int .u64 (L2 z1), .int .u64 (L3 z1)])), (105, (.agg #[.int .u64 (L0 z2), .int .u64 (L1 z2), .int .u64 (L2 z2), .int .u64 (L3 z2)])), (106, (.tuple #[(.agg #[.int .u64 (L0 q2), .int .u64 (L1 q2), .int .u64 (L2 q2), .int .u64 (L3 q2)]), (.agg #[.int .u64 (L0 r2), .int .u64 (L1 r2), .int .u64 (L2 r2), .int .u64 (L3 r2)]), (.int .i64 e2)])), (103, (.tuple #[(.agg #[.int .u64 (L0 q2), .int .u64 (L1 q2), .int .u64 (L2 q2), .int .u64 (L3 q2)]), (.agg #[.int .u64 (L0 r2), .int .u64 (L1 r2), .int .u64 (L2 r2), .int .u64 (L3 r2)]), (.int .i64 e2)])), (107, (.agg #[.int .u64 (L0 q2), .int .u64 (L1 q2), .int .u64 (L2 q2), .int .u64 (L3 q2)])), (108, (.agg #[.int .u64 (L0 r2), .int .u64 (L1 r2), .int .u64 (L2 r2), .int .u64 (L3 r2)])), (109, (.int .i64 e2)), (18, .pointer (some ⟨b18, 0, none⟩)), (19, .pointer (some ⟨b19, 0, none⟩)), (20, (.int .i64 e2))]
          ⟨I.val 0 rfl rfl rfl, I.val 1 rfl rfl rfl, I.val 2 rfl rfl rfl, I.val 3 rfl rfl rfl, I.val 4 rfl rfl rfl, I.val 5 rfl rfl rfl, I.val 6 rfl rfl rfl, e18, e19, I.val 11 rfl rfl rfl, trivial⟩ rfl]
        change W7.heap.size ≤ b18 at l18
        change W7.heap.size ≤ b19 at l19
        have sW8 : W7.heap.size ≤ W8.heap.size := I.below.size
        replace OA := I.keep OA (by repeat' (first | exact trivial | refine Off.v ?_ | refine Off.k ?_ | refine Off.b ?_ | refine Off.p ?_ | refine Off.s ?_ ?_ | omega))
        replace OB := I.keep OB (by repeat' (first | exact trivial | refine Off.v ?_ | refine Off.k ?_ | refine Off.b ?_ | refine Off.p ?_ | refine Off.s ?_ ?_ | omega))
        replace OC := I.keep OC (by repeat' (first | exact trivial | refine Off.v ?_ | refine Off.k ?_ | refine Off.b ?_ | refine Off.p ?_ | refine Off.s ?_ ?_ | omega))
        replace o7 := I.keep o7 (by repeat' (first | exact trivial | refine Off.v ?_ | refine Off.k ?_ | refine Off.b ?_ | refine Off.p ?_ | refine Off.s ?_ ?_ | omega))
        replace o16 := I.keep o16 (by repeat' (first | exact trivial | refine Off.v ?_ | refine Off.k ?_ | refine Off.b ?_ | refine Off.p ?_ | refine Off.s ?_ ?_ | omega))
        have hW8 : Below w.heap.size w W8 := then_ hW7 I.below hW7.size
        clear e18 e19
        clear I
        simp only [List.foldl_cons, List.foldl_nil, List.setIfInBounds_toArray, List.set_cons_zero, List.set_cons_succ]
        go_upto_region 12 with fail
        refine region_memo_f (B := W8.heap.size) (L := .val (.agg #[.int .u64 (L0 g), .int .u64 (L1 g), .int .u64 (L2 g), .int .u64 (L3 g)]) :: .val (.agg #[.int .u64 (L0 z2), .int .u64 (L1 z2), .int .u64 (L2 z2), .int .u64 (L3 z2)]) :: .val (.tuple #[(.agg #[.int .u64 (L0 q3), .int .u64 (L1 q3), .int .u64 (L2 q3), .int .u64 (L3 q3)]), (.agg #[.int .u64 (L0 r3), .int .u64 (L1 r3), .int .u64 (L2 r3), .int .u64 (L3 r3)]), (.int .i64 e3)]) :: .val (.tuple #[(.agg #[.int .u64 (L0 q3), .int .u64 (L1 q3), .int .u64 (L2 q3), .int .u64 (L3 q3)]), (.agg #[.int .u64 (L0 r3), .int .u64 (L1 r3), .int .u64 (L2 r3), .int .u64 (L3 r3)]), (.int .i64 e3)]) :: .val (.agg #[.int .u64 (L0 q3), .int .u64 (L1 q3), .int .u64 (L2 q3), .int .u64 (L3 q3)]) :: .val (.agg #[.int .u64 (L0 r3), .int .u64 (L1 r3), .int .u64 (L2 r3), .int .u64 (L3 r3)]) :: .val (.int .i64 e3) :: .blk 24 4 :: .blk 24 4 :: .put 21 24 #[.int .u64 (L0 q3), .int .u64 (L1 q3), .int .u64 (L2 q3), .int .u64 (L3 q3)] :: .put 22 24 #[.int .u64 (L0 r3), .int .u64 (L1 r3), .int .u64 (L2 r3), .int .u64 (L3 r3)] :: .val (.int .i64 e3) :: []) (by kernel_rfl) (Nat.le_refl _) ((by exact trivial))
          ⟨fun a w R => ld24 (R.slot 7 rfl) (R.keep o7 (by repeat' (first | exact trivial | refine Off.v ?_ | refine Off.k ?_ | refine Off.b ?_ | refine Off.p ?_ | refine Off.s ?_ ?_ | omega))), fun a w R => ld24 (R.slot 5 rfl) (R.keep OC (by repeat' (first | exact trivial | refine Off.v ?_ | refine Off.k ?_ | refine Off.b ?_ | refine Off.p ?_ | refine Off.s ?_ ?_ | omega))), fun a w R => cl2 en_Div (R.val 0 rfl rfl rfl (by kernel_rfl)) (R.val 1 rfl rfl rfl (by kernel_rfl)) (D3.out _), fun a w R => mv (R.val 2 rfl rfl rfl (by kernel_rfl)), fun a w R => x30 (R.val 3 rfl rfl rfl (by kernel_rfl)), fun a w R => x31 (R.val 3 rfl rfl rfl (by kernel_rfl)), fun a w R => x32 (R.val 3 rfl rfl rfl (by kernel_rfl)), fun a w R => al24, fun a w R => al24, fun a w R => sb24 (R.dep 7 rfl (by kernel_rfl)) (R.val 4 rfl rfl rfl (by kernel_rfl)), fun a w R => sb24 (R.dep 8 rfl (by kernel_rfl)) (R.val 5 rfl rfl rfl (by kernel_rfl)), fun a w R => asg (R.val 6 rfl rfl rfl (by kernel_rfl)), trivial⟩ (fun a1 W9 I => ?_)
        obtain ⟨b21, e21, l21, o21⟩ := I.put 9 rfl rfl
        obtain ⟨b22, e22, l22, o22⟩ := I.put 10 rfl rfl
        have n21_22 := I.far 7 8 rfl rfl (by omega) rfl rfl rfl rfl e21 e22
        rw [I.act [(111, (.agg #[.int .u64 (L0 g), .int .u64 (L1 g), .int .u64 (L2 g), .int .u64 (L3 g)])), (112, (.agg #[.int .u64 (L0 z2), .int .u64 (L1 z2), .int .u64 (L2 z2), .int .u64 (L3 z2)])), (113, (.tuple #[(.agg #[.int .u64 (L0 q3), .int .u64 (L1 q3), .int .u64 (L2 q3), .int .u64 (L3 q3)]), (.agg #[.int .u64 (L0 r3), .int .u64 (L1 r3), .int .u64 (L2 r3), .int .u64 (L3 r3)]), (.int .i64 e3)])), (110, (.tuple #[(.agg #[.int .u64 (L0 q3), .int .u64 (L1 q3), .int .u64 (L2 q3), .int .u64 (L3 q3)]), (.agg #[.int .u64 (L0 r3), .int .u64 (L1 r3), .int .u64 (L2 r3), .int .u64 (L3 r3)]), (.int .i64 e3)])), (114, (.agg #[.int .u64 (L0 q3), .int .u64 (L1 q3), .int .u64 (L2 q3), .int .u64 (L3 q3)])), (115, (.agg #[.int .u64 (L0 r3), .int .u64 (L1 r3), .int .u64 (L2 r3), .int .u64 (L3 r3)])), (116, (.int .i64 e3)), (21, .pointer (some ⟨b21, 0, none⟩)), (22, .pointer (some ⟨b22, 0, none⟩)), (23, (.int .i64 e3))]
          ⟨I.val 0 rfl rfl rfl, I.val 1 rfl rfl rfl, I.val 2 rfl rfl rfl, I.val 3 rfl rfl rfl, I.val 4 rfl rfl rfl, I.val 5 rfl rfl rfl, I.val 6 rfl rfl rfl, e21, e22, I.val 11 rfl rfl rfl, trivial⟩ rfl]
        change W8.heap.size ≤ b21 at l21
        change W8.heap.size ≤ b22 at l22
        have sW9 : W8.heap.size ≤ W9.heap.size := I.below.size
        replace OA := I.keep OA (by repeat' (first | exact trivial | refine Off.v ?_ | refine Off.k ?_ | refine Off.b ?_ | refine Off.p ?_ | refine Off.s ?_ ?_ | omega))
        replace OB := I.keep OB (by repeat' (first | exact trivial | refine Off.v ?_ | refine Off.k ?_ | refine Off.b ?_ | refine Off.p ?_ | refine Off.s ?_ ?_ | omega))
        replace OC := I.keep OC (by repeat' (first | exact trivial | refine Off.v ?_ | refine Off.k ?_ | refine Off.b ?_ | refine Off.p ?_ | refine Off.s ?_ ?_ | omega))
        replace o7 := I.keep o7 (by repeat' (first | exact trivial | refine Off.v ?_ | refine Off.k ?_ | refine Off.b ?_ | refine Off.p ?_ | refine Off.s ?_ ?_ | omega))
        replace o16 := I.keep o16 (by repeat' (first | exact trivial | refine Off.v ?_ | refine Off.k ?_ | refine Off.b ?_ | refine Off.p ?_ | refine Off.s ?_ ?_ | omega))
        replace o19 := I.keep o19 (by repeat' (first | exact trivial | refine Off.v ?_ | refine Off.k ?_ | refine Off.b ?_ | refine Off.p ?_ | refine Off.s ?_ ?_ | omega))
        have hW9 : Below w.heap.size w W9 := then_ hW8 I.below hW8.size
        clear e21 e22
        clear I
        simp only [List.foldl_cons, List.foldl_nil, List.setIfInBounds_toArray, List.set_cons_zero, List.set_cons_succ]
        clear D1 D2 D3 OA OB OC o7 o15 o18 o21
        go_upto_region 13 with fail
        have HP : Pow10 W9 := hp.keep hW9
        by_cases h0 : e1 = 0
        · subst h0
          have n0 : (!((0 : Int) == 0)) = false := rfl
          by_cases h1 : e2 = 0
          · subst h1
            have n1 : (!((0 : Int) == 0)) = false := rfl
            by_cases h2 : e3 = 0
            · subst h2
              have n2 : (!((0 : Int) == 0)) = false := rfl
              by_cases h3 : r1 = 0
              · subst h3
                by_cases h4 : r2 = 0
                · subst h4
                  have hv := HV.out rfl rfl rfl rfl rfl
                  subst hv
                  refine region_memo_f (B := W9.heap.size) (L := .val (.bool true) :: .val (.bool true) :: .val (.int .i64 0) :: .val (.bool false) :: .val (.bool false) :: .val (.int .i64 0) :: .val (.bool false) :: .val (.bool false) :: .val (.bool false) :: .val (.int .i64 0) :: .val (.bool false) :: .val (.bool false) :: .val (.bool false) :: .val (.agg #[.int .u64 (L0 0), .int .u64 (L1 0), .int .u64 (L2 0), .int .u64 (L3 0)]) :: .val (.agg #[.int .u64 0, .int .u64 0, .int .u64 0, .int .u64 0]) :: .val (.bool false) :: .val (.bool false) :: .val (.bool false) :: .val (.agg #[.int .u64 (L0 0), .int .u64 (L1 0), .int .u64 (L2 0), .int .u64 (L3 0)]) :: .val (.agg #[.int .u64 0, .int .u64 0, .int .u64 0, .int .u64 0]) :: .val (.bool false) :: .val (.bool false) :: .val (.bool false) :: .val (.agg #[.int .u64 (L0 0), .int .u64 (L1 0), .int .u64 (L2 0), .int .u64 (L3 0)]) :: .val (.agg #[.int .u64 0, .int .u64 0, .int .u64 0, .int .u64 0]) :: .val (.bool true) :: .val (.bool true) :: .val (.bool true) :: .val (.bool true) :: []) (by kernel_rfl) (Nat.le_refl _) ((by exact trivial))
                    ⟨fun a w R => cl0 en_awake (awake_any _ (HP.keep R.below)), fun a w R => mv (R.val 0 rfl rfl rfl (by kernel_rfl)), fun a w R => mv (R.slot 17 rfl), fun a w R => nqk (R.val 2 rfl rfl rfl (by kernel_rfl)) (Tryd.underlying25) n0, fun a w R => mv (R.val 3 rfl rfl rfl (by kernel_rfl)), fun a w R => mv (R.slot 20 rfl), fun a w R => nqk (R.val 5 rfl rfl rfl (by kernel_rfl)) (Tryd.underlying25) n1, fun a w R => pickn (R.val 4 rfl rfl rfl (by kernel_rfl)) (R.val 6 rfl rfl rfl (by kernel_rfl)), fun a w R => mv (R.val 7 rfl rfl rfl (by kernel_rfl)), fun a w R => mv (R.slot 23 rfl), fun a w R => nqk (R.val 9 rfl rfl rfl (by kernel_rfl)) (Tryd.underlying25) n2, fun a w R => pickn (R.val 8 rfl rfl rfl (by kernel_rfl)) (R.val 10 rfl rfl rfl (by kernel_rfl)), fun a w R => mv (R.val 11 rfl rfl rfl (by kernel_rfl)), fun a w R => ld24 (R.slot 16 rfl) (R.keep o16 (by repeat' (first | exact trivial | refine Off.v ?_ | refine Off.k ?_ | refine Off.b ?_ | refine Off.p ?_ | refine Off.s ?_ ?_ | omega))), fun a w R => bld0, fun a w R => nqw (R.val 13 rfl rfl rfl (by kernel_rfl)) (R.val 14 rfl rfl rfl (by kernel_rfl)) eq_z0, fun a w R => pickn (R.val 12 rfl rfl rfl (by kernel_rfl)) (R.val 15 rfl rfl rfl (by kernel_rfl)), fun a w R => mv (R.val 16 rfl rfl rfl (by kernel_rfl)), fun a w R => ld24 (R.slot 19 rfl) (R.keep o19 (by repeat' (first | exact trivial | refine Off.v ?_ | refine Off.k ?_ | refine Off.b ?_ | refine Off.p ?_ | refine Off.s ?_ ?_ | omega))), fun a w R => bld0, fun a w R => nqw (R.val 18 rfl rfl rfl (by kernel_rfl)) (R.val 19 rfl rfl rfl (by kernel_rfl)) eq_z0, fun a w R => pickn (R.val 17 rfl rfl rfl (by kernel_rfl)) (R.val 20 rfl rfl rfl (by kernel_rfl)), fun a w R => mv (R.val 21 rfl rfl rfl (by kernel_rfl)), fun a w R => ld24 (R.slot 22 rfl) (R.keep o22 (by repeat' (first | exact trivial | refine Off.v ?_ | refine Off.k ?_ | refine Off.b ?_ | refine Off.p ?_ | refine Off.s ?_ ?_ | omega))), fun a w R => bld0, fun a w R => eqw (R.val 23 rfl rfl rfl (by kernel_rfl)) (R.val 24 rfl rfl rfl (by kernel_rfl)) eq_z0, fun a w R => pickn (R.val 22 rfl rfl rfl (by kernel_rfl)) (R.val 25 rfl rfl rfl (by kernel_rfl)), fun a w R => pickt (R.val 1 rfl rfl rfl (by kernel_rfl)) (R.val 26 rfl rfl rfl (by kernel_rfl)), fun a w R => asg (R.val 27 rfl rfl rfl (by kernel_rfl)), trivial⟩ (fun a1 W10 I => ?_)
                  rw [I.act [(117, (.bool true)), (118, (.bool true)), (119, (.int .i64 0)), (120, (.bool false)), (121, (.bool false)), (122, (.int .i64 0)), (123, (.bool false)), (124, (.bool false)), (125, (.bool false)), (126, (.int .i64 0)), (127, (.bool false)), (128, (.bool false)), (129, (.bool false)), (130, (.agg #[.int .u64 (L0 0), .int .u64 (L1 0), .int .u64 (L2 0), .int .u64 (L3 0)])), (131, (.agg #[.int .u64 0, .int .u64 0, .int .u64 0, .int .u64 0])), (132, (.bool false)), (133, (.bool false)), (134, (.bool false)), (135, (.agg #[.int .u64 (L0 0), .int .u64 (L1 0), .int .u64 (L2 0), .int .u64 (L3 0)])), (136, (.agg #[.int .u64 0, .int .u64 0, .int .u64 0, .int .u64 0])), (137, (.bool false)), (138, (.bool false)), (139, (.bool false)), (140, (.agg #[.int .u64 (L0 0), .int .u64 (L1 0), .int .u64 (L2 0), .int .u64 (L3 0)])), (141, (.agg #[.int .u64 0, .int .u64 0, .int .u64 0, .int .u64 0])), (142, (.bool true)), (143, (.bool true)), (144, (.bool true)), (6, (.bool true))]
                    ⟨I.val 0 rfl rfl rfl, I.val 1 rfl rfl rfl, I.val 2 rfl rfl rfl, I.val 3 rfl rfl rfl, I.val 4 rfl rfl rfl, I.val 5 rfl rfl rfl, I.val 6 rfl rfl rfl, I.val 7 rfl rfl rfl, I.val 8 rfl rfl rfl, I.val 9 rfl rfl rfl, I.val 10 rfl rfl rfl, I.val 11 rfl rfl rfl, I.val 12 rfl rfl rfl, I.val 13 rfl rfl rfl, I.val 14 rfl rfl rfl, I.val 15 rfl rfl rfl, I.val 16 rfl rfl rfl, I.val 17 rfl rfl rfl, I.val 18 rfl rfl rfl, I.val 19 rfl rfl rfl, I.val 20 rfl rfl rfl, I.val 21 rfl rfl rfl, I.val 22 rfl rfl rfl, I.val 23 rfl rfl rfl, I.val 24 rfl rfl rfl, I.val 25 rfl rfl rfl, I.val 26 rfl rfl rfl, I.val 27 rfl rfl rfl, I.val 28 rfl rfl rfl, trivial⟩ rfl]
                  have sW10 : W9.heap.size ≤ W10.heap.size := I.below.size
                  replace o16 := I.keep o16 (by repeat' (first | exact trivial | refine Off.v ?_ | refine Off.k ?_ | refine Off.b ?_ | refine Off.p ?_ | refine Off.s ?_ ?_ | omega))
                  replace o19 := I.keep o19 (by repeat' (first | exact trivial | refine Off.v ?_ | refine Off.k ?_ | refine Off.b ?_ | refine Off.p ?_ | refine Off.s ?_ ?_ | omega))
                  replace o22 := I.keep o22 (by repeat' (first | exact trivial | refine Off.v ?_ | refine Off.k ?_ | refine Off.b ?_ | refine Off.p ?_ | refine Off.s ?_ ?_ | omega))
                  have hW10 : Below w.heap.size w W10 := then_ hW9 I.below hW9.size
                  clear I
                  simp only [List.foldl_cons, List.foldl_nil, List.setIfInBounds_toArray, List.set_cons_zero, List.set_cons_succ]
                  go_wp2
                  go_ret
                  exact ⟨rfl, hW10⟩
                · have n4 := eq_no fr2 h4
                  refine region_memo_f (B := W9.heap.size) (L := .val (.bool true) :: .val (.bool true) :: .val (.int .i64 0) :: .val (.bool false) :: .val (.bool false) :: .val (.int .i64 0) :: .val (.bool false) :: .val (.bool false) :: .val (.bool false) :: .val (.int .i64 0) :: .val (.bool false) :: .val (.bool false) :: .val (.bool false) :: .val (.agg #[.int .u64 (L0 0), .int .u64 (L1 0), .int .u64 (L2 0), .int .u64 (L3 0)]) :: .val (.agg #[.int .u64 0, .int .u64 0, .int .u64 0, .int .u64 0]) :: .val (.bool false) :: .val (.bool false) :: .val (.bool false) :: .val (.agg #[.int .u64 (L0 r2), .int .u64 (L1 r2), .int .u64 (L2 r2), .int .u64 (L3 r2)]) :: .val (.agg #[.int .u64 0, .int .u64 0, .int .u64 0, .int .u64 0]) :: .val (.bool true) :: .val (.bool true) :: .val (.bool true) :: .skip :: .skip :: .skip :: .val (.bool true) :: .val (.bool true) :: .val (.bool true) :: []) (by kernel_rfl) (Nat.le_refl _) ((by exact trivial))
                    ⟨fun a w R => cl0 en_awake (awake_any _ (HP.keep R.below)), fun a w R => mv (R.val 0 rfl rfl rfl (by kernel_rfl)), fun a w R => mv (R.slot 17 rfl), fun a w R => nqk (R.val 2 rfl rfl rfl (by kernel_rfl)) (Tryd.underlying25) n0, fun a w R => mv (R.val 3 rfl rfl rfl (by kernel_rfl)), fun a w R => mv (R.slot 20 rfl), fun a w R => nqk (R.val 5 rfl rfl rfl (by kernel_rfl)) (Tryd.underlying25) n1, fun a w R => pickn (R.val 4 rfl rfl rfl (by kernel_rfl)) (R.val 6 rfl rfl rfl (by kernel_rfl)), fun a w R => mv (R.val 7 rfl rfl rfl (by kernel_rfl)), fun a w R => mv (R.slot 23 rfl), fun a w R => nqk (R.val 9 rfl rfl rfl (by kernel_rfl)) (Tryd.underlying25) n2, fun a w R => pickn (R.val 8 rfl rfl rfl (by kernel_rfl)) (R.val 10 rfl rfl rfl (by kernel_rfl)), fun a w R => mv (R.val 11 rfl rfl rfl (by kernel_rfl)), fun a w R => ld24 (R.slot 16 rfl) (R.keep o16 (by repeat' (first | exact trivial | refine Off.v ?_ | refine Off.k ?_ | refine Off.b ?_ | refine Off.p ?_ | refine Off.s ?_ ?_ | omega))), fun a w R => bld0, fun a w R => nqw (R.val 13 rfl rfl rfl (by kernel_rfl)) (R.val 14 rfl rfl rfl (by kernel_rfl)) eq_z0, fun a w R => pickn (R.val 12 rfl rfl rfl (by kernel_rfl)) (R.val 15 rfl rfl rfl (by kernel_rfl)), fun a w R => mv (R.val 16 rfl rfl rfl (by kernel_rfl)), fun a w R => ld24 (R.slot 19 rfl) (R.keep o19 (by repeat' (first | exact trivial | refine Off.v ?_ | refine Off.k ?_ | refine Off.b ?_ | refine Off.p ?_ | refine Off.s ?_ ?_ | omega))), fun a w R => bld0, fun a w R => nqw (R.val 18 rfl rfl rfl (by kernel_rfl)) (R.val 19 rfl rfl rfl (by kernel_rfl)) n4, fun a w R => pickn (R.val 17 rfl rfl rfl (by kernel_rfl)) (R.val 20 rfl rfl rfl (by kernel_rfl)), fun a w R => mv (R.val 21 rfl rfl rfl (by kernel_rfl)), fun a w R => True.intro, fun a w R => True.intro, fun a w R => True.intro, fun a w R => picko (R.val 22 rfl rfl rfl (by kernel_rfl)) (R.goneS 25 rfl rfl rfl (by kernel_rfl)), fun a w R => pickt (R.val 1 rfl rfl rfl (by kernel_rfl)) (R.val 26 rfl rfl rfl (by kernel_rfl)), fun a w R => asg (R.val 27 rfl rfl rfl (by kernel_rfl)), trivial⟩ (fun a1 W10 I => ?_)
                  rw [I.act [(117, (.bool true)), (118, (.bool true)), (119, (.int .i64 0)), (120, (.bool false)), (121, (.bool false)), (122, (.int .i64 0)), (123, (.bool false)), (124, (.bool false)), (125, (.bool false)), (126, (.int .i64 0)), (127, (.bool false)), (128, (.bool false)), (129, (.bool false)), (130, (.agg #[.int .u64 (L0 0), .int .u64 (L1 0), .int .u64 (L2 0), .int .u64 (L3 0)])), (131, (.agg #[.int .u64 0, .int .u64 0, .int .u64 0, .int .u64 0])), (132, (.bool false)), (133, (.bool false)), (134, (.bool false)), (135, (.agg #[.int .u64 (L0 r2), .int .u64 (L1 r2), .int .u64 (L2 r2), .int .u64 (L3 r2)])), (136, (.agg #[.int .u64 0, .int .u64 0, .int .u64 0, .int .u64 0])), (137, (.bool true)), (138, (.bool true)), (139, (.bool true)), (140, undef), (141, undef), (142, undef), (143, (.bool true)), (144, (.bool true)), (6, (.bool true))]
                    ⟨I.val 0 rfl rfl rfl, I.val 1 rfl rfl rfl, I.val 2 rfl rfl rfl, I.val 3 rfl rfl rfl, I.val 4 rfl rfl rfl, I.val 5 rfl rfl rfl, I.val 6 rfl rfl rfl, I.val 7 rfl rfl rfl, I.val 8 rfl rfl rfl, I.val 9 rfl rfl rfl, I.val 10 rfl rfl rfl, I.val 11 rfl rfl rfl, I.val 12 rfl rfl rfl, I.val 13 rfl rfl rfl, I.val 14 rfl rfl rfl, I.val 15 rfl rfl rfl, I.val 16 rfl rfl rfl, I.val 17 rfl rfl rfl, I.val 18 rfl rfl rfl, I.val 19 rfl rfl rfl, I.val 20 rfl rfl rfl, I.val 21 rfl rfl rfl, I.val 22 rfl rfl rfl, I.gone 23 rfl rfl rfl, I.gone 24 rfl rfl rfl, I.gone 25 rfl rfl rfl, I.val 26 rfl rfl rfl, I.val 27 rfl rfl rfl, I.val 28 rfl rfl rfl, trivial⟩ rfl]
                  have sW10 : W9.heap.size ≤ W10.heap.size := I.below.size
                  replace o16 := I.keep o16 (by repeat' (first | exact trivial | refine Off.v ?_ | refine Off.k ?_ | refine Off.b ?_ | refine Off.p ?_ | refine Off.s ?_ ?_ | omega))
                  replace o19 := I.keep o19 (by repeat' (first | exact trivial | refine Off.v ?_ | refine Off.k ?_ | refine Off.b ?_ | refine Off.p ?_ | refine Off.s ?_ ?_ | omega))
                  replace o22 := I.keep o22 (by repeat' (first | exact trivial | refine Off.v ?_ | refine Off.k ?_ | refine Off.b ?_ | refine Off.p ?_ | refine Off.s ?_ ?_ | omega))
                  have hW10 : Below w.heap.size w W10 := then_ hW9 I.below hW9.size
                  clear I
                  simp only [List.foldl_cons, List.foldl_nil, List.setIfInBounds_toArray, List.set_cons_zero, List.set_cons_succ]
                  go_wp2
                  go_ret
                  exact ⟨rfl, hW10⟩
              · have n3 := eq_no fr1 h3
                refine region_memo_f (B := W9.heap.size) (L := .val (.bool true) :: .val (.bool true) :: .val (.int .i64 0) :: .val (.bool false) :: .val (.bool false) :: .val (.int .i64 0) :: .val (.bool false) :: .val (.bool false) :: .val (.bool false) :: .val (.int .i64 0) :: .val (.bool false) :: .val (.bool false) :: .val (.bool false) :: .val (.agg #[.int .u64 (L0 r1), .int .u64 (L1 r1), .int .u64 (L2 r1), .int .u64 (L3 r1)]) :: .val (.agg #[.int .u64 0, .int .u64 0, .int .u64 0, .int .u64 0]) :: .val (.bool true) :: .val (.bool true) :: .val (.bool true) :: .skip :: .skip :: .skip :: .val (.bool true) :: .val (.bool true) :: .skip :: .skip :: .skip :: .val (.bool true) :: .val (.bool true) :: .val (.bool true) :: []) (by kernel_rfl) (Nat.le_refl _) ((by exact trivial))
                  ⟨fun a w R => cl0 en_awake (awake_any _ (HP.keep R.below)), fun a w R => mv (R.val 0 rfl rfl rfl (by kernel_rfl)), fun a w R => mv (R.slot 17 rfl), fun a w R => nqk (R.val 2 rfl rfl rfl (by kernel_rfl)) (Tryd.underlying25) n0, fun a w R => mv (R.val 3 rfl rfl rfl (by kernel_rfl)), fun a w R => mv (R.slot 20 rfl), fun a w R => nqk (R.val 5 rfl rfl rfl (by kernel_rfl)) (Tryd.underlying25) n1, fun a w R => pickn (R.val 4 rfl rfl rfl (by kernel_rfl)) (R.val 6 rfl rfl rfl (by kernel_rfl)), fun a w R => mv (R.val 7 rfl rfl rfl (by kernel_rfl)), fun a w R => mv (R.slot 23 rfl), fun a w R => nqk (R.val 9 rfl rfl rfl (by kernel_rfl)) (Tryd.underlying25) n2, fun a w R => pickn (R.val 8 rfl rfl rfl (by kernel_rfl)) (R.val 10 rfl rfl rfl (by kernel_rfl)), fun a w R => mv (R.val 11 rfl rfl rfl (by kernel_rfl)), fun a w R => ld24 (R.slot 16 rfl) (R.keep o16 (by repeat' (first | exact trivial | refine Off.v ?_ | refine Off.k ?_ | refine Off.b ?_ | refine Off.p ?_ | refine Off.s ?_ ?_ | omega))), fun a w R => bld0, fun a w R => nqw (R.val 13 rfl rfl rfl (by kernel_rfl)) (R.val 14 rfl rfl rfl (by kernel_rfl)) n3, fun a w R => pickn (R.val 12 rfl rfl rfl (by kernel_rfl)) (R.val 15 rfl rfl rfl (by kernel_rfl)), fun a w R => mv (R.val 16 rfl rfl rfl (by kernel_rfl)), fun a w R => True.intro, fun a w R => True.intro, fun a w R => True.intro, fun a w R => picko (R.val 17 rfl rfl rfl (by kernel_rfl)) (R.goneS 20 rfl rfl rfl (by kernel_rfl)), fun a w R => mv (R.val 21 rfl rfl rfl (by kernel_rfl)), fun a w R => True.intro, fun a w R => True.intro, fun a w R => True.intro, fun a w R => picko (R.val 22 rfl rfl rfl (by kernel_rfl)) (R.goneS 25 rfl rfl rfl (by kernel_rfl)), fun a w R => pickt (R.val 1 rfl rfl rfl (by kernel_rfl)) (R.val 26 rfl rfl rfl (by kernel_rfl)), fun a w R => asg (R.val 27 rfl rfl rfl (by kernel_rfl)), trivial⟩ (fun a1 W10 I => ?_)
                rw [I.act [(117, (.bool true)), (118, (.bool true)), (119, (.int .i64 0)), (120, (.bool false)), (121, (.bool false)), (122, (.int .i64 0)), (123, (.bool false)), (124, (.bool false)), (125, (.bool false)), (126, (.int .i64 0)), (127, (.bool false)), (128, (.bool false)), (129, (.bool false)), (130, (.agg #[.int .u64 (L0 r1), .int .u64 (L1 r1), .int .u64 (L2 r1), .int .u64 (L3 r1)])), (131, (.agg #[.int .u64 0, .int .u64 0, .int .u64 0, .int .u64 0])), (132, (.bool true)), (133, (.bool true)), (134, (.bool true)), (135, undef), (136, undef), (137, undef), (138, (.bool true)), (139, (.bool true)), (140, undef), (141, undef), (142, undef), (143, (.bool true)), (144, (.bool true)), (6, (.bool true))]
                  ⟨I.val 0 rfl rfl rfl, I.val 1 rfl rfl rfl, I.val 2 rfl rfl rfl, I.val 3 rfl rfl rfl, I.val 4 rfl rfl rfl, I.val 5 rfl rfl rfl, I.val 6 rfl rfl rfl, I.val 7 rfl rfl rfl, I.val 8 rfl rfl rfl, I.val 9 rfl rfl rfl, I.val 10 rfl rfl rfl, I.val 11 rfl rfl rfl, I.val 12 rfl rfl rfl, I.val 13 rfl rfl rfl, I.val 14 rfl rfl rfl, I.val 15 rfl rfl rfl, I.val 16 rfl rfl rfl, I.val 17 rfl rfl rfl, I.gone 18 rfl rfl rfl, I.gone 19 rfl rfl rfl, I.gone 20 rfl rfl rfl, I.val 21 rfl rfl rfl, I.val 22 rfl rfl rfl, I.gone 23 rfl rfl rfl, I.gone 24 rfl rfl rfl, I.gone 25 rfl rfl rfl, I.val 26 rfl rfl rfl, I.val 27 rfl rfl rfl, I.val 28 rfl rfl rfl, trivial⟩ rfl]
                have sW10 : W9.heap.size ≤ W10.heap.size := I.below.size
                replace o16 := I.keep o16 (by repeat' (first | exact trivial | refine Off.v ?_ | refine Off.k ?_ | refine Off.b ?_ | refine Off.p ?_ | refine Off.s ?_ ?_ | omega))
                replace o19 := I.keep o19 (by repeat' (first | exact trivial | refine Off.v ?_ | refine Off.k ?_ | refine Off.b ?_ | refine Off.p ?_ | refine Off.s ?_ ?_ | omega))
                replace o22 := I.keep o22 (by repeat' (first | exact trivial | refine Off.v ?_ | refine Off.k ?_ | refine Off.b ?_ | refine Off.p ?_ | refine Off.s ?_ ?_ | omega))
                have hW10 : Below w.heap.size w W10 := then_ hW9 I.below hW9.size
                clear I
                simp only [List.foldl_cons, List.foldl_nil, List.setIfInBounds_toArray, List.set_cons_zero, List.set_cons_succ]
                go_wp2
                go_ret
                exact ⟨rfl, hW10⟩
            · have n2 : (!(e3 == 0)) = true := by simpa using h2
              refine region_memo_f (B := W9.heap.size) (L := .val (.bool true) :: .val (.bool true) :: .val (.int .i64 0) :: .val (.bool false) :: .val (.bool false) :: .val (.int .i64 0) :: .val (.bool false) :: .val (.bool false) :: .val (.bool false) :: .val (.int .i64 e3) :: .val (.bool true) :: .val (.bool true) :: .val (.bool true) :: .skip :: .skip :: .skip :: .val (.bool true) :: .val (.bool true) :: .skip :: .skip :: .skip :: .val (.bool true) :: .val (.bool true) :: .skip :: .skip :: .skip :: .val (.bool true) :: .val (.bool true) :: .val (.bool true) :: []) (by kernel_rfl) (Nat.le_refl _) ((by exact trivial))
                ⟨fun a w R => cl0 en_awake (awake_any _ (HP.keep R.below)), fun a w R => mv (R.val 0 rfl rfl rfl (by kernel_rfl)), fun a w R => mv (R.slot 17 rfl), fun a w R => nqk (R.val 2 rfl rfl rfl (by kernel_rfl)) (Tryd.underlying25) n0, fun a w R => mv (R.val 3 rfl rfl rfl (by kernel_rfl)), fun a w R => mv (R.slot 20 rfl), fun a w R => nqk (R.val 5 rfl rfl rfl (by kernel_rfl)) (Tryd.underlying25) n1, fun a w R => pickn (R.val 4 rfl rfl rfl (by kernel_rfl)) (R.val 6 rfl rfl rfl (by kernel_rfl)), fun a w R => mv (R.val 7 rfl rfl rfl (by kernel_rfl)), fun a w R => mv (R.slot 23 rfl), fun a w R => nqk (R.val 9 rfl rfl rfl (by kernel_rfl)) (Tryd.underlying25) n2, fun a w R => pickn (R.val 8 rfl rfl rfl (by kernel_rfl)) (R.val 10 rfl rfl rfl (by kernel_rfl)), fun a w R => mv (R.val 11 rfl rfl rfl (by kernel_rfl)), fun a w R => True.intro, fun a w R => True.intro, fun a w R => True.intro, fun a w R => picko (R.val 12 rfl rfl rfl (by kernel_rfl)) (R.goneS 15 rfl rfl rfl (by kernel_rfl)), fun a w R => mv (R.val 16 rfl rfl rfl (by kernel_rfl)), fun a w R => True.intro, fun a w R => True.intro, fun a w R => True.intro, fun a w R => picko (R.val 17 rfl rfl rfl (by kernel_rfl)) (R.goneS 20 rfl rfl rfl (by kernel_rfl)), fun a w R => mv (R.val 21 rfl rfl rfl (by kernel_rfl)), fun a w R => True.intro, fun a w R => True.intro, fun a w R => True.intro, fun a w R => picko (R.val 22 rfl rfl rfl (by kernel_rfl)) (R.goneS 25 rfl rfl rfl (by kernel_rfl)), fun a w R => pickt (R.val 1 rfl rfl rfl (by kernel_rfl)) (R.val 26 rfl rfl rfl (by kernel_rfl)), fun a w R => asg (R.val 27 rfl rfl rfl (by kernel_rfl)), trivial⟩ (fun a1 W10 I => ?_)
              rw [I.act [(117, (.bool true)), (118, (.bool true)), (119, (.int .i64 0)), (120, (.bool false)), (121, (.bool false)), (122, (.int .i64 0)), (123, (.bool false)), (124, (.bool false)), (125, (.bool false)), (126, (.int .i64 e3)), (127, (.bool true)), (128, (.bool true)), (129, (.bool true)), (130, undef), (131, undef), (132, undef), (133, (.bool true)), (134, (.bool true)), (135, undef), (136, undef), (137, undef), (138, (.bool true)), (139, (.bool true)), (140, undef), (141, undef), (142, undef), (143, (.bool true)), (144, (.bool true)), (6, (.bool true))]
                ⟨I.val 0 rfl rfl rfl, I.val 1 rfl rfl rfl, I.val 2 rfl rfl rfl, I.val 3 rfl rfl rfl, I.val 4 rfl rfl rfl, I.val 5 rfl rfl rfl, I.val 6 rfl rfl rfl, I.val 7 rfl rfl rfl, I.val 8 rfl rfl rfl, I.val 9 rfl rfl rfl, I.val 10 rfl rfl rfl, I.val 11 rfl rfl rfl, I.val 12 rfl rfl rfl, I.gone 13 rfl rfl rfl, I.gone 14 rfl rfl rfl, I.gone 15 rfl rfl rfl, I.val 16 rfl rfl rfl, I.val 17 rfl rfl rfl, I.gone 18 rfl rfl rfl, I.gone 19 rfl rfl rfl, I.gone 20 rfl rfl rfl, I.val 21 rfl rfl rfl, I.val 22 rfl rfl rfl, I.gone 23 rfl rfl rfl, I.gone 24 rfl rfl rfl, I.gone 25 rfl rfl rfl, I.val 26 rfl rfl rfl, I.val 27 rfl rfl rfl, I.val 28 rfl rfl rfl, trivial⟩ rfl]
              have sW10 : W9.heap.size ≤ W10.heap.size := I.below.size
              replace o16 := I.keep o16 (by repeat' (first | exact trivial | refine Off.v ?_ | refine Off.k ?_ | refine Off.b ?_ | refine Off.p ?_ | refine Off.s ?_ ?_ | omega))
              replace o19 := I.keep o19 (by repeat' (first | exact trivial | refine Off.v ?_ | refine Off.k ?_ | refine Off.b ?_ | refine Off.p ?_ | refine Off.s ?_ ?_ | omega))
              replace o22 := I.keep o22 (by repeat' (first | exact trivial | refine Off.v ?_ | refine Off.k ?_ | refine Off.b ?_ | refine Off.p ?_ | refine Off.s ?_ ?_ | omega))
              have hW10 : Below w.heap.size w W10 := then_ hW9 I.below hW9.size
              clear I
              simp only [List.foldl_cons, List.foldl_nil, List.setIfInBounds_toArray, List.set_cons_zero, List.set_cons_succ]
              go_wp2
              go_ret
              exact ⟨rfl, hW10⟩
          · have n1 : (!(e2 == 0)) = true := by simpa using h1
            refine region_memo_f (B := W9.heap.size) (L := .val (.bool true) :: .val (.bool true) :: .val (.int .i64 0) :: .val (.bool false) :: .val (.bool false) :: .val (.int .i64 e2) :: .val (.bool true) :: .val (.bool true) :: .val (.bool true) :: .skip :: .skip :: .val (.bool true) :: .val (.bool true) :: .skip :: .skip :: .skip :: .val (.bool true) :: .val (.bool true) :: .skip :: .skip :: .skip :: .val (.bool true) :: .val (.bool true) :: .skip :: .skip :: .skip :: .val (.bool true) :: .val (.bool true) :: .val (.bool true) :: []) (by kernel_rfl) (Nat.le_refl _) ((by exact trivial))
              ⟨fun a w R => cl0 en_awake (awake_any _ (HP.keep R.below)), fun a w R => mv (R.val 0 rfl rfl rfl (by kernel_rfl)), fun a w R => mv (R.slot 17 rfl), fun a w R => nqk (R.val 2 rfl rfl rfl (by kernel_rfl)) (Tryd.underlying25) n0, fun a w R => mv (R.val 3 rfl rfl rfl (by kernel_rfl)), fun a w R => mv (R.slot 20 rfl), fun a w R => nqk (R.val 5 rfl rfl rfl (by kernel_rfl)) (Tryd.underlying25) n1, fun a w R => pickn (R.val 4 rfl rfl rfl (by kernel_rfl)) (R.val 6 rfl rfl rfl (by kernel_rfl)), fun a w R => mv (R.val 7 rfl rfl rfl (by kernel_rfl)), fun a w R => True.intro, fun a w R => True.intro, fun a w R => picko (R.val 8 rfl rfl rfl (by kernel_rfl)) (R.goneS 10 rfl rfl rfl (by kernel_rfl)), fun a w R => mv (R.val 11 rfl rfl rfl (by kernel_rfl)), fun a w R => True.intro, fun a w R => True.intro, fun a w R => True.intro, fun a w R => picko (R.val 12 rfl rfl rfl (by kernel_rfl)) (R.goneS 15 rfl rfl rfl (by kernel_rfl)), fun a w R => mv (R.val 16 rfl rfl rfl (by kernel_rfl)), fun a w R => True.intro, fun a w R => True.intro, fun a w R => True.intro, fun a w R => picko (R.val 17 rfl rfl rfl (by kernel_rfl)) (R.goneS 20 rfl rfl rfl (by kernel_rfl)), fun a w R => mv (R.val 21 rfl rfl rfl (by kernel_rfl)), fun a w R => True.intro, fun a w R => True.intro, fun a w R => True.intro, fun a w R => picko (R.val 22 rfl rfl rfl (by kernel_rfl)) (R.goneS 25 rfl rfl rfl (by kernel_rfl)), fun a w R => pickt (R.val 1 rfl rfl rfl (by kernel_rfl)) (R.val 26 rfl rfl rfl (by kernel_rfl)), fun a w R => asg (R.val 27 rfl rfl rfl (by kernel_rfl)), trivial⟩ (fun a1 W10 I => ?_)
            rw [I.act [(117, (.bool true)), (118, (.bool true)), (119, (.int .i64 0)), (120, (.bool false)), (121, (.bool false)), (122, (.int .i64 e2)), (123, (.bool true)), (124, (.bool true)), (125, (.bool true)), (126, undef), (127, undef), (128, (.bool true)), (129, (.bool true)), (130, undef), (131, undef), (132, undef), (133, (.bool true)), (134, (.bool true)), (135, undef), (136, undef), (137, undef), (138, (.bool true)), (139, (.bool true)), (140, undef), (141, undef), (142, undef), (143, (.bool true)), (144, (.bool true)), (6, (.bool true))]
              ⟨I.val 0 rfl rfl rfl, I.val 1 rfl rfl rfl, I.val 2 rfl rfl rfl, I.val 3 rfl rfl rfl, I.val 4 rfl rfl rfl, I.val 5 rfl rfl rfl, I.val 6 rfl rfl rfl, I.val 7 rfl rfl rfl, I.val 8 rfl rfl rfl, I.gone 9 rfl rfl rfl, I.gone 10 rfl rfl rfl, I.val 11 rfl rfl rfl, I.val 12 rfl rfl rfl, I.gone 13 rfl rfl rfl, I.gone 14 rfl rfl rfl, I.gone 15 rfl rfl rfl, I.val 16 rfl rfl rfl, I.val 17 rfl rfl rfl, I.gone 18 rfl rfl rfl, I.gone 19 rfl rfl rfl, I.gone 20 rfl rfl rfl, I.val 21 rfl rfl rfl, I.val 22 rfl rfl rfl, I.gone 23 rfl rfl rfl, I.gone 24 rfl rfl rfl, I.gone 25 rfl rfl rfl, I.val 26 rfl rfl rfl, I.val 27 rfl rfl rfl, I.val 28 rfl rfl rfl, trivial⟩ rfl]
            have sW10 : W9.heap.size ≤ W10.heap.size := I.below.size
            replace o16 := I.keep o16 (by repeat' (first | exact trivial | refine Off.v ?_ | refine Off.k ?_ | refine Off.b ?_ | refine Off.p ?_ | refine Off.s ?_ ?_ | omega))
            replace o19 := I.keep o19 (by repeat' (first | exact trivial | refine Off.v ?_ | refine Off.k ?_ | refine Off.b ?_ | refine Off.p ?_ | refine Off.s ?_ ?_ | omega))
            replace o22 := I.keep o22 (by repeat' (first | exact trivial | refine Off.v ?_ | refine Off.k ?_ | refine Off.b ?_ | refine Off.p ?_ | refine Off.s ?_ ?_ | omega))
            have hW10 : Below w.heap.size w W10 := then_ hW9 I.below hW9.size
            clear I
            simp only [List.foldl_cons, List.foldl_nil, List.setIfInBounds_toArray, List.set_cons_zero, List.set_cons_succ]
            go_wp2
            go_ret
            exact ⟨rfl, hW10⟩
        · have n0 : (!(e1 == 0)) = true := by simpa using h0
          refine region_memo_f (B := W9.heap.size) (L := .val (.bool true) :: .val (.bool true) :: .val (.int .i64 e1) :: .val (.bool true) :: .val (.bool true) :: .skip :: .skip :: .val (.bool true) :: .val (.bool true) :: .skip :: .skip :: .val (.bool true) :: .val (.bool true) :: .skip :: .skip :: .skip :: .val (.bool true) :: .val (.bool true) :: .skip :: .skip :: .skip :: .val (.bool true) :: .val (.bool true) :: .skip :: .skip :: .skip :: .val (.bool true) :: .val (.bool true) :: .val (.bool true) :: []) (by kernel_rfl) (Nat.le_refl _) ((by exact trivial))
            ⟨fun a w R => cl0 en_awake (awake_any _ (HP.keep R.below)), fun a w R => mv (R.val 0 rfl rfl rfl (by kernel_rfl)), fun a w R => mv (R.slot 17 rfl), fun a w R => nqk (R.val 2 rfl rfl rfl (by kernel_rfl)) (Tryd.underlying25) n0, fun a w R => mv (R.val 3 rfl rfl rfl (by kernel_rfl)), fun a w R => True.intro, fun a w R => True.intro, fun a w R => picko (R.val 4 rfl rfl rfl (by kernel_rfl)) (R.goneS 6 rfl rfl rfl (by kernel_rfl)), fun a w R => mv (R.val 7 rfl rfl rfl (by kernel_rfl)), fun a w R => True.intro, fun a w R => True.intro, fun a w R => picko (R.val 8 rfl rfl rfl (by kernel_rfl)) (R.goneS 10 rfl rfl rfl (by kernel_rfl)), fun a w R => mv (R.val 11 rfl rfl rfl (by kernel_rfl)), fun a w R => True.intro, fun a w R => True.intro, fun a w R => True.intro, fun a w R => picko (R.val 12 rfl rfl rfl (by kernel_rfl)) (R.goneS 15 rfl rfl rfl (by kernel_rfl)), fun a w R => mv (R.val 16 rfl rfl rfl (by kernel_rfl)), fun a w R => True.intro, fun a w R => True.intro, fun a w R => True.intro, fun a w R => picko (R.val 17 rfl rfl rfl (by kernel_rfl)) (R.goneS 20 rfl rfl rfl (by kernel_rfl)), fun a w R => mv (R.val 21 rfl rfl rfl (by kernel_rfl)), fun a w R => True.intro, fun a w R => True.intro, fun a w R => True.intro, fun a w R => picko (R.val 22 rfl rfl rfl (by kernel_rfl)) (R.goneS 25 rfl rfl rfl (by kernel_rfl)), fun a w R => pickt (R.val 1 rfl rfl rfl (by kernel_rfl)) (R.val 26 rfl rfl rfl (by kernel_rfl)), fun a w R => asg (R.val 27 rfl rfl rfl (by kernel_rfl)), trivial⟩ (fun a1 W10 I => ?_)
          rw [I.act [(117, (.bool true)), (118, (.bool true)), (119, (.int .i64 e1)), (120, (.bool true)), (121, (.bool true)), (122, undef), (123, undef), (124, (.bool true)), (125, (.bool true)), (126, undef), (127, undef), (128, (.bool true)), (129, (.bool true)), (130, undef), (131, undef), (132, undef), (133, (.bool true)), (134, (.bool true)), (135, undef), (136, undef), (137, undef), (138, (.bool true)), (139, (.bool true)), (140, undef), (141, undef), (142, undef), (143, (.bool true)), (144, (.bool true)), (6, (.bool true))]
            ⟨I.val 0 rfl rfl rfl, I.val 1 rfl rfl rfl, I.val 2 rfl rfl rfl, I.val 3 rfl rfl rfl, I.val 4 rfl rfl rfl, I.gone 5 rfl rfl rfl, I.gone 6 rfl rfl rfl, I.val 7 rfl rfl rfl, I.val 8 rfl rfl rfl, I.gone 9 rfl rfl rfl, I.gone 10 rfl rfl rfl, I.val 11 rfl rfl rfl, I.val 12 rfl rfl rfl, I.gone 13 rfl rfl rfl, I.gone 14 rfl rfl rfl, I.gone 15 rfl rfl rfl, I.val 16 rfl rfl rfl, I.val 17 rfl rfl rfl, I.gone 18 rfl rfl rfl, I.gone 19 rfl rfl rfl, I.gone 20 rfl rfl rfl, I.val 21 rfl rfl rfl, I.val 22 rfl rfl rfl, I.gone 23 rfl rfl rfl, I.gone 24 rfl rfl rfl, I.gone 25 rfl rfl rfl, I.val 26 rfl rfl rfl, I.val 27 rfl rfl rfl, I.val 28 rfl rfl rfl, trivial⟩ rfl]
          have sW10 : W9.heap.size ≤ W10.heap.size := I.below.size
          replace o16 := I.keep o16 (by repeat' (first | exact trivial | refine Off.v ?_ | refine Off.k ?_ | refine Off.b ?_ | refine Off.p ?_ | refine Off.s ?_ ?_ | omega))
          replace o19 := I.keep o19 (by repeat' (first | exact trivial | refine Off.v ?_ | refine Off.k ?_ | refine Off.b ?_ | refine Off.p ?_ | refine Off.s ?_ ?_ | omega))
          replace o22 := I.keep o22 (by repeat' (first | exact trivial | refine Off.v ?_ | refine Off.k ?_ | refine Off.b ?_ | refine Off.p ?_ | refine Off.s ?_ ?_ | omega))
          have hW10 : Below w.heap.size w W10 := then_ hW9 I.below hW9.size
          clear I
          simp only [List.foldl_cons, List.foldl_nil, List.setIfInBounds_toArray, List.set_cons_zero, List.set_cons_succ]
          go_wp2
          go_ret
          exact ⟨rfl, hW10⟩

set_option maxRecDepth 100000 in
theorem lifted (os : Os) (started : os.Started) (H : Type) (enc : TypeId × Value → H) :
    ReturnsInHanded {} Tryd.checked os 5 .any (fun w args => (Rows.wideSharesSpec.pre enc Tryd.prog Tryd.f5 [] false w args ∧ laidMetH Tryd.prog lay3 w) ∧ sizedMet enc Tryd.prog Tryd.f5 (OpenSpec.ofChange Rows.wideSharesSpec) false w args) (Rows.wideSharesSpec.post enc Tryd.prog Tryd.f5 false true false false) := by
  refine returnsInHanded_of_change_and (C := Tryd.checked) (X := fun w _ => laidMetH Tryd.prog lay3 w) (fun _ _ _ hh h => h.of_heap hh) own started (by kernel_rfl) Tryd.func5
    (ChangeSpec.witness_shaped (enc := enc) (C := Tryd.checked) (os := os) (X := fun w _ => laidMetH Tryd.prog lay3 w) false (World.doorLaid Tryd.prog 400 os) #[.agg #[.int .u64 0, .int .u64 0, .int .u64 0, .int .u64 0], .agg #[.int .u64 0, .int .u64 0, .int .u64 0, .int .u64 0], .agg #[.int .u64 0, .int .u64 0, .int .u64 0, .int .u64 0]] 8 rfl (World.shaped_of_RefB (by kernel_rfl) (by kernel_rfl)) (by kernel_rfl) (by kernel_rfl) (by kernel_rfl) (door_met os _)) ?_
  intro W base args ds gs before hval0 hW _ _ hL _
  have hval : ∀ (j : Nat) t v, Tryd.f5.params[j]? = some t → args[j]? = some v → Value.okWide Tryd.prog W .any base t v := hval0
  have hW' := hW
  obtain ⟨p, q, hA0, hV, rfl, hfz, hnd⟩ := hW
  have hA : DataW.TrodAll enc Tryd.prog W 0 (fun _ => true) true Tryd.f5.params.toList args.toList ds p := hA0
  rw [Tryd.params5] at hA hval
  obtain ⟨v0, vs0, d0, ds0, p0, q0, hargs, rfl, rfl, h0, r0⟩ := trodAll_cons hA
  obtain ⟨v1, vs1, d1, ds1, p1, q1, rfl, rfl, rfl, h1, r1⟩ := trodAll_cons r0
  obtain ⟨v2, vs2, d2, ds2, p2, q2, rfl, rfl, rfl, h2, r2⟩ := trodAll_cons r1
  obtain ⟨rfl, rfl, rfl⟩ := trodAll_nil r2
  obtain rfl : args = #[v0, v1, v2] := by cases args; simp_all
  obtain ⟨rfl, rfl⟩ := trodVars_none hV
  obtain ⟨z0, rfl, rfl, rfl, f0⟩ := open_i4 (hval 0 24 v0 rfl rfl) h0
  obtain ⟨z1, rfl, rfl, rfl, f1⟩ := open_i4 (hval 1 24 v1 rfl rfl) h1
  obtain ⟨z2, rfl, rfl, rfl, f2⟩ := open_i4 (hval 2 24 v2 rfl rfl) h2
  clear hA0 hval0
  refine (walk z0 z1 z2 W f0 f1 f2 (pow_of hL)).mono fun e W' ⟨he, bel⟩ => ?_
  subst he
  exact ⟨_, rfl, _, _, _, [], _, [], hW', trodAll_mk1 (shut_bool Tryd.underlying4 _), (trodAll_cons_mk (shut_i4 _) (trodAll_cons_mk (shut_i4 _) (trodAll_cons_mk (shut_i4 _) trodAll_mk0))), rfl, bel.frame _, fun h => by cases h⟩

theorem over : Rows.WideSharesSaid :=
  OpenClaim.holds_of_wide 5 Tryd.f5 rfl rfl rfl rfl rfl rfl rfl ⟨rfl, rfl, rfl, rfl, rfl⟩ rfl rfl rfl rfl rfl (by kernel_rfl) Tryd.func5 (by kernel_rfl)
    (of_decide_eq_true (by kernel_rfl)) (by unfold Func.isWrapper; first | (rw [if_pos (by decide +kernel)]; kernel_rfl) | (rw [if_neg (by decide +kernel)]; exact ⟨rfl, rfl⟩))
    (fun os started H enc _ => lifted os started H enc)

/-- THE STATEMENT -/
theorem proved : Rows.WideSharesCardSaid :=
  Claim7.holds_tied_plain_at .later [] [.data, .data, .data] true (true, "47736ff30275cea319144992b9be9eacce67dcf5cce1ba0c7c9b132f2de78be1") false
    over (fun _ h => by cases h) (by kernel_rfl) (fun _ h => by cases h) wideShares_row_tie rfl ⟨rfl, rfl⟩ (by kernel_rfl) rfl
    (fun f fn hf hfn => by
      obtain rfl : f = 5 := Option.some.inj ((show Tryd.prog.funcNamed "croft/croftlaw03.WideShares" = some 5 by kernel_rfl).symm.trans hf) |>.symm
      obtain rfl : fn = Tryd.f5 := (Option.some.inj (Tryd.func5.symm.trans hfn)).symm
      exact ⟨by kernel_rfl, fun j t ht => by
        rw [Tryd.params5] at ht
        have hm : t ∈ [24, 24, 24] := by simpa using Array.mem_of_getElem? ht
        have hall : ([24, 24, 24].all fun u => !Tryd.prog.wantsStandIn u) = true := by kernel_rfl
        exact (show Tryd.prog.wantsStandIn t = false by simpa using List.all_eq_true.1 hall t hm)⟩)
    (by kernel_rfl)
#print axioms proved
end Go.Proofs.YtfgamdhhdiogjaaDoor.wideShares
