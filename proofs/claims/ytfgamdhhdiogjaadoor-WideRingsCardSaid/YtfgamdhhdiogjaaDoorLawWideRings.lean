/- WideRings: sums and products of any three numbers don't hang on the order, and fit together, where they fit; the tables start as the program's text lays them. -/
import Derived.Test.YtfgamdhhdiogjaaDoorRows
import Derived.Test.YtfgamdhhdiogjaaDoorBase
import Derived.Test.YtfgamdhhdiogjaaDoorMemoX
import Derived.WalkKit
import Derived.ProofKit
import Derived.OpenShut
import Derived.ShutString
import Derived.ChangeOld
import Derived.Below
import Derived.SliceStrings
import Derived.Test.YtfgamdhhdiogjaaDoorLaid
import Derived.Test.YtfgamdhhdiogjaaDoorCards
import Derived.Test.YtfgamdhhdiogjaaDoorTie
import Derived.LaidMore
import Derived.Stop.Joined
import Derived.SevenTiedAt
namespace Go.Proofs.YtfgamdhhdiogjaaDoor.wideRings
open Go.ChangeShapes Go.WideShapes Go.ChangeAt Go.RowKit
open Go.ChangeMaps (open_string shut_string)
set_option linter.unusedVariables false

theorem back {x z0 z1 ex d ed : Int} {F F' : Nat} (f0 : Fit z0) (AB : Gives F z0 z1 (z0 + z1) x ex) (XB : Gives F' x z1 (x - z1) d ed) (h : ex = 0) : ed = 0 ∧ d = z0 := by
  rcases AB.2.2 with ⟨_, h2, h3⟩ | ⟨h1, _⟩
  · rcases XB.2.2 with ⟨k1, k2, k3⟩ | ⟨k1, k2, k3⟩
    · exact ⟨k1, by omega⟩
    · exact absurd (by rw [h2, show z0 + z1 - z1 = z0 by omega]; exact f0) k3
  · omega

theorem own : ownKnob Tryd.prog.godebug = none := by kernel_rfl
theorem laidOut : laidOutB Tryd.prog = true := by kernel_rfl

set_option maxHeartbeats 16000000 in
set_option maxRecDepth 20000 in
theorem walk (z0 : Int) (z1 : Int) (z2 : Int) (w : World) (f0 : Fit z0) (f1 : Fit z1) (f2 : Fit z2) (hp : Pow10 w) :
    Calls Tryd.prog 3 #[.agg #[.int .u64 (L0 z0), .int .u64 (L1 z0), .int .u64 (L2 z0), .int .u64 (L3 z0)], .agg #[.int .u64 (L0 z1), .int .u64 (L1 z1), .int .u64 (L2 z1), .int .u64 (L3 z1)], .agg #[.int .u64 (L0 z2), .int .u64 (L1 z2), .int .u64 (L2 z2), .int .u64 (L3 z2)]] w fun e w' => e = .returned (.bool true) ∧ Below w.heap.size w w' := by
  obtain ⟨x, ex, AB⟩ := add_both z0 z1 f0 f1
  obtain ⟨y, ey, BA⟩ := add_both z1 z0 f1 f0
  rw [Int.add_comm z1 z0] at BA
  obtain ⟨rfl, rfl⟩ := AB.same BA
  obtain ⟨p, eg, MP⟩ := mul_both z0 z1 f0 f1
  obtain ⟨q, eq, MQ⟩ := mul_both z1 z0 f1 f0
  rw [Int.mul_comm z1 z0] at MQ
  obtain ⟨rfl, rfl⟩ := MP.same MQ
  obtain ⟨d, ed, XB⟩ := sub_both y z1 AB.2.1 f1
  obtain ⟨s, es, BC⟩ := add_both z1 z2 f1 f2
  obtain ⟨l, el, AS⟩ := mul_both z0 s f0 BC.2.1
  obtain ⟨r, er, AC⟩ := mul_both z0 z2 f0 f2
  obtain ⟨t, et, PR⟩ := add_both q r MP.2.1 AC.2.1
  have HD := Lib.hid (fun h => back f0 AB XB h)
  have HT1 : es = 0 → el = 0 → eq = 0 → er = 0 → et = 0 → l = t := fun h1 h2 h3 h4 h5 => by
    rw [AS.is h2, BC.is h1, PR.is h5, MP.is h3, AC.is h4, Int.mul_add]
  have HT := Lib.hid HT1
  have F1 := Lib.hid AB.1
  have F2 := Lib.hid BA.1
  have F3 := Lib.hid MP.1
  have F4 := Lib.hid MQ.1
  have F5 := Lib.hid XB.1
  have F6 := Lib.hid BC.1
  have F7 := Lib.hid AS.1
  have F8 := Lib.hid AC.1
  have F9 := Lib.hid PR.1
  clear HT1 AB BA MP MQ XB BC AS AC PR f0 f1 f2
  go_enter Tryd.func3, Tryd.ntmps3
  go_upto_region 1 with fail
  go_name_world W0 hW0e
  have OA : Own W0 w.heap.size 24 #[.int .u64 (L0 z0), .int .u64 (L1 z0), .int .u64 (L2 z0), .int .u64 (L3 z0)] := hW0e ▸ (by repeat' (first | (with_reducible assumption) | (with_reducible refine Own.drawnN ?_ _) | (with_reducible refine Own.drawn ?_) | (with_reducible refine Own.made_at ?_; first | rfl | (simp; done) | omega | (simp; omega)) | (with_reducible refine Own.more ?_ _) | (with_reducible refine Own.apart ?_ ?_ _ _; rotate_left; first | omega | (simp; done) | (simp; omega)) | (refine Own.put ?_ _ _)))
  have OB : Own W0 (w.heap.size + 1) 24 #[.int .u64 (L0 z1), .int .u64 (L1 z1), .int .u64 (L2 z1), .int .u64 (L3 z1)] := hW0e ▸ (by repeat' (first | (with_reducible assumption) | (with_reducible refine Own.drawnN ?_ _) | (with_reducible refine Own.drawn ?_) | (with_reducible refine Own.made_at ?_; first | rfl | (simp; done) | omega | (simp; omega)) | (with_reducible refine Own.more ?_ _) | (with_reducible refine Own.apart ?_ ?_ _ _; rotate_left; first | omega | (simp; done) | (simp; omega)) | (refine Own.put ?_ _ _)))
  have OC : Own W0 (w.heap.size + 1 + 1) 24 #[.int .u64 (L0 z2), .int .u64 (L1 z2), .int .u64 (L2 z2), .int .u64 (L3 z2)] := hW0e ▸ (by repeat' (first | (with_reducible assumption) | (with_reducible refine Own.drawnN ?_ _) | (with_reducible refine Own.drawn ?_) | (with_reducible refine Own.made_at ?_; first | rfl | (simp; done) | omega | (simp; omega)) | (with_reducible refine Own.more ?_ _) | (with_reducible refine Own.apart ?_ ?_ _ _; rotate_left; first | omega | (simp; done) | (simp; omega)) | (refine Own.put ?_ _ _)))
  have hW0 : Below w.heap.size w W0 := hW0e ▸ (by repeat' (first | (with_reducible exact Below.refl _ _) | (with_reducible assumption) | (with_reducible refine below_drewN ?_ _) | (with_reducible refine Below.drew ?_) | (with_reducible refine Below.alloc ?_ ?_ _) | (with_reducible refine Below.setCell ?_ ?_ _) | (with_reducible refine then_ ?_ (by with_reducible assumption) ?_) | (with_reducible exact Nat.le_refl _) | (with_reducible exact Nat.le_succ _) | (with_reducible exact Nat.le_succ_of_le (by with_reducible assumption)) | omega | (simp; done) | (simp; omega) | (exact Nat.le_succ _) | (exact Nat.le_succ_of_le (by with_reducible assumption))))
  clear hW0e
  refine region_memo_f (B := W0.heap.size) (L := .val (.agg #[.int .u64 (L0 z0), .int .u64 (L1 z0), .int .u64 (L2 z0), .int .u64 (L3 z0)]) :: .val (.agg #[.int .u64 (L0 z1), .int .u64 (L1 z1), .int .u64 (L2 z1), .int .u64 (L3 z1)]) :: .val (.tuple #[(.agg #[.int .u64 (L0 y), .int .u64 (L1 y), .int .u64 (L2 y), .int .u64 (L3 y)]), (.int .i64 ey)]) :: .val (.tuple #[(.agg #[.int .u64 (L0 y), .int .u64 (L1 y), .int .u64 (L2 y), .int .u64 (L3 y)]), (.int .i64 ey)]) :: .val (.agg #[.int .u64 (L0 y), .int .u64 (L1 y), .int .u64 (L2 y), .int .u64 (L3 y)]) :: .val (.int .i64 ey) :: .blk 24 4 :: .put 7 24 #[.int .u64 (L0 y), .int .u64 (L1 y), .int .u64 (L2 y), .int .u64 (L3 y)] :: .val (.int .i64 ey) :: []) (by kernel_rfl) (Nat.le_refl _) ((by exact trivial))
    ⟨fun a w R => ld24 (R.slot 3 rfl) (R.keep OA (by repeat' (first | exact trivial | refine Off.v ?_ | refine Off.k ?_ | refine Off.b ?_ | refine Off.p ?_ | refine Off.s ?_ ?_ | omega))), fun a w R => ld24 (R.slot 4 rfl) (R.keep OB (by repeat' (first | exact trivial | refine Off.v ?_ | refine Off.k ?_ | refine Off.b ?_ | refine Off.p ?_ | refine Off.s ?_ ?_ | omega))), fun a w R => cl2 en_Add (R.val 0 rfl rfl rfl (by kernel_rfl)) (R.val 1 rfl rfl rfl (by kernel_rfl)) (F1.out _), fun a w R => mv (R.val 2 rfl rfl rfl (by kernel_rfl)), fun a w R => ex0 (R.val 3 rfl rfl rfl (by kernel_rfl)), fun a w R => ex1 (R.val 3 rfl rfl rfl (by kernel_rfl)), fun a w R => al24, fun a w R => sb24 (R.dep 6 rfl (by kernel_rfl)) (R.val 4 rfl rfl rfl (by kernel_rfl)), fun a w R => asg (R.val 5 rfl rfl rfl (by kernel_rfl)), trivial⟩ (fun a1 W1 I => ?_)
  obtain ⟨b7, e7, l7, o7⟩ := I.put 7 rfl rfl
  rw [I.act [(24, (.agg #[.int .u64 (L0 z0), .int .u64 (L1 z0), .int .u64 (L2 z0), .int .u64 (L3 z0)])), (25, (.agg #[.int .u64 (L0 z1), .int .u64 (L1 z1), .int .u64 (L2 z1), .int .u64 (L3 z1)])), (26, (.tuple #[(.agg #[.int .u64 (L0 y), .int .u64 (L1 y), .int .u64 (L2 y), .int .u64 (L3 y)]), (.int .i64 ey)])), (23, (.tuple #[(.agg #[.int .u64 (L0 y), .int .u64 (L1 y), .int .u64 (L2 y), .int .u64 (L3 y)]), (.int .i64 ey)])), (27, (.agg #[.int .u64 (L0 y), .int .u64 (L1 y), .int .u64 (L2 y), .int .u64 (L3 y)])), (28, (.int .i64 ey)), (7, .pointer (some ⟨b7, 0, none⟩)), (8, (.int .i64 ey))]
    ⟨I.val 0 rfl rfl rfl, I.val 1 rfl rfl rfl, I.val 2 rfl rfl rfl, I.val 3 rfl rfl rfl, I.val 4 rfl rfl rfl, I.val 5 rfl rfl rfl, e7, I.val 8 rfl rfl rfl, trivial⟩ rfl]
  change W0.heap.size ≤ b7 at l7
  have sW1 : W0.heap.size ≤ W1.heap.size := I.below.size
  replace OA := I.keep OA (by repeat' (first | exact trivial | refine Off.v ?_ | refine Off.k ?_ | refine Off.b ?_ | refine Off.p ?_ | refine Off.s ?_ ?_ | omega))
  replace OB := I.keep OB (by repeat' (first | exact trivial | refine Off.v ?_ | refine Off.k ?_ | refine Off.b ?_ | refine Off.p ?_ | refine Off.s ?_ ?_ | omega))
  replace OC := I.keep OC (by repeat' (first | exact trivial | refine Off.v ?_ | refine Off.k ?_ | refine Off.b ?_ | refine Off.p ?_ | refine Off.s ?_ ?_ | omega))
  have hW1 : Below w.heap.size w W1 := then_ hW0 I.below hW0.size
  clear e7
  clear I
  simp only [List.foldl_cons, List.foldl_nil, List.setIfInBounds_toArray, List.set_cons_zero, List.set_cons_succ]
  go_upto_region 2 with fail
  refine region_memo_f (B := W1.heap.size) (L := .val (.agg #[.int .u64 (L0 z1), .int .u64 (L1 z1), .int .u64 (L2 z1), .int .u64 (L3 z1)]) :: .val (.agg #[.int .u64 (L0 z0), .int .u64 (L1 z0), .int .u64 (L2 z0), .int .u64 (L3 z0)]) :: .val (.tuple #[(.agg #[.int .u64 (L0 y), .int .u64 (L1 y), .int .u64 (L2 y), .int .u64 (L3 y)]), (.int .i64 ey)]) :: .val (.tuple #[(.agg #[.int .u64 (L0 y), .int .u64 (L1 y), .int .u64 (L2 y), .int .u64 (L3 y)]), (.int .i64 ey)]) :: .val (.agg #[.int .u64 (L0 y), .int .u64 (L1 y), .int .u64 (L2 y), .int .u64 (L3 y)]) :: .val (.int .i64 ey) :: .blk 24 4 :: .put 9 24 #[.int .u64 (L0 y), .int .u64 (L1 y), .int .u64 (L2 y), .int .u64 (L3 y)] :: .val (.int .i64 ey) :: []) (by kernel_rfl) (Nat.le_refl _) ((by exact trivial))
    ⟨fun a w R => ld24 (R.slot 4 rfl) (R.keep OB (by repeat' (first | exact trivial | refine Off.v ?_ | refine Off.k ?_ | refine Off.b ?_ | refine Off.p ?_ | refine Off.s ?_ ?_ | omega))), fun a w R => ld24 (R.slot 3 rfl) (R.keep OA (by repeat' (first | exact trivial | refine Off.v ?_ | refine Off.k ?_ | refine Off.b ?_ | refine Off.p ?_ | refine Off.s ?_ ?_ | omega))), fun a w R => cl2 en_Add (R.val 0 rfl rfl rfl (by kernel_rfl)) (R.val 1 rfl rfl rfl (by kernel_rfl)) (F2.out _), fun a w R => mv (R.val 2 rfl rfl rfl (by kernel_rfl)), fun a w R => ex0 (R.val 3 rfl rfl rfl (by kernel_rfl)), fun a w R => ex1 (R.val 3 rfl rfl rfl (by kernel_rfl)), fun a w R => al24, fun a w R => sb24 (R.dep 6 rfl (by kernel_rfl)) (R.val 4 rfl rfl rfl (by kernel_rfl)), fun a w R => asg (R.val 5 rfl rfl rfl (by kernel_rfl)), trivial⟩ (fun a1 W2 I => ?_)
  obtain ⟨b9, e9, l9, o9⟩ := I.put 7 rfl rfl
  rw [I.act [(30, (.agg #[.int .u64 (L0 z1), .int .u64 (L1 z1), .int .u64 (L2 z1), .int .u64 (L3 z1)])), (31, (.agg #[.int .u64 (L0 z0), .int .u64 (L1 z0), .int .u64 (L2 z0), .int .u64 (L3 z0)])), (32, (.tuple #[(.agg #[.int .u64 (L0 y), .int .u64 (L1 y), .int .u64 (L2 y), .int .u64 (L3 y)]), (.int .i64 ey)])), (29, (.tuple #[(.agg #[.int .u64 (L0 y), .int .u64 (L1 y), .int .u64 (L2 y), .int .u64 (L3 y)]), (.int .i64 ey)])), (33, (.agg #[.int .u64 (L0 y), .int .u64 (L1 y), .int .u64 (L2 y), .int .u64 (L3 y)])), (34, (.int .i64 ey)), (9, .pointer (some ⟨b9, 0, none⟩)), (10, (.int .i64 ey))]
    ⟨I.val 0 rfl rfl rfl, I.val 1 rfl rfl rfl, I.val 2 rfl rfl rfl, I.val 3 rfl rfl rfl, I.val 4 rfl rfl rfl, I.val 5 rfl rfl rfl, e9, I.val 8 rfl rfl rfl, trivial⟩ rfl]
  change W1.heap.size ≤ b9 at l9
  have sW2 : W1.heap.size ≤ W2.heap.size := I.below.size
  replace OA := I.keep OA (by repeat' (first | exact trivial | refine Off.v ?_ | refine Off.k ?_ | refine Off.b ?_ | refine Off.p ?_ | refine Off.s ?_ ?_ | omega))
  replace OB := I.keep OB (by repeat' (first | exact trivial | refine Off.v ?_ | refine Off.k ?_ | refine Off.b ?_ | refine Off.p ?_ | refine Off.s ?_ ?_ | omega))
  replace OC := I.keep OC (by repeat' (first | exact trivial | refine Off.v ?_ | refine Off.k ?_ | refine Off.b ?_ | refine Off.p ?_ | refine Off.s ?_ ?_ | omega))
  replace o7 := I.keep o7 (by repeat' (first | exact trivial | refine Off.v ?_ | refine Off.k ?_ | refine Off.b ?_ | refine Off.p ?_ | refine Off.s ?_ ?_ | omega))
  have hW2 : Below w.heap.size w W2 := then_ hW1 I.below hW1.size
  clear e9
  clear I
  simp only [List.foldl_cons, List.foldl_nil, List.setIfInBounds_toArray, List.set_cons_zero, List.set_cons_succ]
  go_upto_region 3 with fail
  refine region_memo_f (B := W2.heap.size) (L := .val (.agg #[.int .u64 (L0 z0), .int .u64 (L1 z0), .int .u64 (L2 z0), .int .u64 (L3 z0)]) :: .val (.agg #[.int .u64 (L0 z1), .int .u64 (L1 z1), .int .u64 (L2 z1), .int .u64 (L3 z1)]) :: .val (.tuple #[(.agg #[.int .u64 (L0 q), .int .u64 (L1 q), .int .u64 (L2 q), .int .u64 (L3 q)]), (.int .i64 eq)]) :: .val (.tuple #[(.agg #[.int .u64 (L0 q), .int .u64 (L1 q), .int .u64 (L2 q), .int .u64 (L3 q)]), (.int .i64 eq)]) :: .val (.agg #[.int .u64 (L0 q), .int .u64 (L1 q), .int .u64 (L2 q), .int .u64 (L3 q)]) :: .val (.int .i64 eq) :: .blk 24 4 :: .put 11 24 #[.int .u64 (L0 q), .int .u64 (L1 q), .int .u64 (L2 q), .int .u64 (L3 q)] :: .val (.int .i64 eq) :: []) (by kernel_rfl) (Nat.le_refl _) ((by exact trivial))
    ⟨fun a w R => ld24 (R.slot 3 rfl) (R.keep OA (by repeat' (first | exact trivial | refine Off.v ?_ | refine Off.k ?_ | refine Off.b ?_ | refine Off.p ?_ | refine Off.s ?_ ?_ | omega))), fun a w R => ld24 (R.slot 4 rfl) (R.keep OB (by repeat' (first | exact trivial | refine Off.v ?_ | refine Off.k ?_ | refine Off.b ?_ | refine Off.p ?_ | refine Off.s ?_ ?_ | omega))), fun a w R => cl2 en_Mul (R.val 0 rfl rfl rfl (by kernel_rfl)) (R.val 1 rfl rfl rfl (by kernel_rfl)) (F3.out _), fun a w R => mv (R.val 2 rfl rfl rfl (by kernel_rfl)), fun a w R => ex0 (R.val 3 rfl rfl rfl (by kernel_rfl)), fun a w R => ex1 (R.val 3 rfl rfl rfl (by kernel_rfl)), fun a w R => al24, fun a w R => sb24 (R.dep 6 rfl (by kernel_rfl)) (R.val 4 rfl rfl rfl (by kernel_rfl)), fun a w R => asg (R.val 5 rfl rfl rfl (by kernel_rfl)), trivial⟩ (fun a1 W3 I => ?_)
  obtain ⟨b11, e11, l11, o11⟩ := I.put 7 rfl rfl
  rw [I.act [(36, (.agg #[.int .u64 (L0 z0), .int .u64 (L1 z0), .int .u64 (L2 z0), .int .u64 (L3 z0)])), (37, (.agg #[.int .u64 (L0 z1), .int .u64 (L1 z1), .int .u64 (L2 z1), .int .u64 (L3 z1)])), (38, (.tuple #[(.agg #[.int .u64 (L0 q), .int .u64 (L1 q), .int .u64 (L2 q), .int .u64 (L3 q)]), (.int .i64 eq)])), (35, (.tuple #[(.agg #[.int .u64 (L0 q), .int .u64 (L1 q), .int .u64 (L2 q), .int .u64 (L3 q)]), (.int .i64 eq)])), (39, (.agg #[.int .u64 (L0 q), .int .u64 (L1 q), .int .u64 (L2 q), .int .u64 (L3 q)])), (40, (.int .i64 eq)), (11, .pointer (some ⟨b11, 0, none⟩)), (12, (.int .i64 eq))]
    ⟨I.val 0 rfl rfl rfl, I.val 1 rfl rfl rfl, I.val 2 rfl rfl rfl, I.val 3 rfl rfl rfl, I.val 4 rfl rfl rfl, I.val 5 rfl rfl rfl, e11, I.val 8 rfl rfl rfl, trivial⟩ rfl]
  change W2.heap.size ≤ b11 at l11
  have sW3 : W2.heap.size ≤ W3.heap.size := I.below.size
  replace OA := I.keep OA (by repeat' (first | exact trivial | refine Off.v ?_ | refine Off.k ?_ | refine Off.b ?_ | refine Off.p ?_ | refine Off.s ?_ ?_ | omega))
  replace OB := I.keep OB (by repeat' (first | exact trivial | refine Off.v ?_ | refine Off.k ?_ | refine Off.b ?_ | refine Off.p ?_ | refine Off.s ?_ ?_ | omega))
  replace OC := I.keep OC (by repeat' (first | exact trivial | refine Off.v ?_ | refine Off.k ?_ | refine Off.b ?_ | refine Off.p ?_ | refine Off.s ?_ ?_ | omega))
  replace o7 := I.keep o7 (by repeat' (first | exact trivial | refine Off.v ?_ | refine Off.k ?_ | refine Off.b ?_ | refine Off.p ?_ | refine Off.s ?_ ?_ | omega))
  replace o9 := I.keep o9 (by repeat' (first | exact trivial | refine Off.v ?_ | refine Off.k ?_ | refine Off.b ?_ | refine Off.p ?_ | refine Off.s ?_ ?_ | omega))
  have hW3 : Below w.heap.size w W3 := then_ hW2 I.below hW2.size
  clear e11
  clear I
  simp only [List.foldl_cons, List.foldl_nil, List.setIfInBounds_toArray, List.set_cons_zero, List.set_cons_succ]
  go_upto_region 4 with fail
  refine region_memo_f (B := W3.heap.size) (L := .val (.agg #[.int .u64 (L0 z1), .int .u64 (L1 z1), .int .u64 (L2 z1), .int .u64 (L3 z1)]) :: .val (.agg #[.int .u64 (L0 z0), .int .u64 (L1 z0), .int .u64 (L2 z0), .int .u64 (L3 z0)]) :: .val (.tuple #[(.agg #[.int .u64 (L0 q), .int .u64 (L1 q), .int .u64 (L2 q), .int .u64 (L3 q)]), (.int .i64 eq)]) :: .val (.tuple #[(.agg #[.int .u64 (L0 q), .int .u64 (L1 q), .int .u64 (L2 q), .int .u64 (L3 q)]), (.int .i64 eq)]) :: .val (.agg #[.int .u64 (L0 q), .int .u64 (L1 q), .int .u64 (L2 q), .int .u64 (L3 q)]) :: .val (.int .i64 eq) :: .blk 24 4 :: .put 13 24 #[.int .u64 (L0 q), .int .u64 (L1 q), .int .u64 (L2 q), .int .u64 (L3 q)] :: .val (.int .i64 eq) :: []) (by kernel_rfl) (Nat.le_refl _) ((by exact trivial))
    ⟨fun a w R => ld24 (R.slot 4 rfl) (R.keep OB (by repeat' (first | exact trivial | refine Off.v ?_ | refine Off.k ?_ | refine Off.b ?_ | refine Off.p ?_ | refine Off.s ?_ ?_ | omega))), fun a w R => ld24 (R.slot 3 rfl) (R.keep OA (by repeat' (first | exact trivial | refine Off.v ?_ | refine Off.k ?_ | refine Off.b ?_ | refine Off.p ?_ | refine Off.s ?_ ?_ | omega))), fun a w R => cl2 en_Mul (R.val 0 rfl rfl rfl (by kernel_rfl)) (R.val 1 rfl rfl rfl (by kernel_rfl)) (F4.out _), fun a w R => mv (R.val 2 rfl rfl rfl (by kernel_rfl)), fun a w R => ex0 (R.val 3 rfl rfl rfl (by kernel_rfl)), fun a w R => ex1 (R.val 3 rfl rfl rfl (by kernel_rfl)), fun a w R => al24, fun a w R => sb24 (R.dep 6 rfl (by kernel_rfl)) (R.val 4 rfl rfl rfl (by kernel_rfl)), fun a w R => asg (R.val 5 rfl rfl rfl (by kernel_rfl)), trivial⟩ (fun a1 W4 I => ?_)
  obtain ⟨b13, e13, l13, o13⟩ := I.put 7 rfl rfl
  rw [I.act [(42, (.agg #[.int .u64 (L0 z1), .int .u64 (L1 z1), .int .u64 (L2 z1), .int .u64 (L3 z1)])), (43, (.agg #[.int .u64 (L0 z0), .int .u64 (L1 z0), .int .u64 (L2 z0), .int .u64 (L3 z0)])), (44, (.tuple #[(.agg #[.int .u64 (L0 q), .int .u64 (L1 q), .int .u64 (L2 q), .int .u64 (L3 q)]), (.int .i64 eq)])), (41, (.tuple #[(.agg #[.int .u64 (L0 q), .int .u64 (L1 q), .int .u64 (L2 q), .int .u64 (L3 q)]), (.int .i64 eq)])), (45, (.agg #[.int .u64 (L0 q), .int .u64 (L1 q), .int .u64 (L2 q), .int .u64 (L3 q)])), (46, (.int .i64 eq)), (13, .pointer (some ⟨b13, 0, none⟩)), (14, (.int .i64 eq))]
    ⟨I.val 0 rfl rfl rfl, I.val 1 rfl rfl rfl, I.val 2 rfl rfl rfl, I.val 3 rfl rfl rfl, I.val 4 rfl rfl rfl, I.val 5 rfl rfl rfl, e13, I.val 8 rfl rfl rfl, trivial⟩ rfl]
  change W3.heap.size ≤ b13 at l13
  have sW4 : W3.heap.size ≤ W4.heap.size := I.below.size
  replace OA := I.keep OA (by repeat' (first | exact trivial | refine Off.v ?_ | refine Off.k ?_ | refine Off.b ?_ | refine Off.p ?_ | refine Off.s ?_ ?_ | omega))
  replace OB := I.keep OB (by repeat' (first | exact trivial | refine Off.v ?_ | refine Off.k ?_ | refine Off.b ?_ | refine Off.p ?_ | refine Off.s ?_ ?_ | omega))
  replace OC := I.keep OC (by repeat' (first | exact trivial | refine Off.v ?_ | refine Off.k ?_ | refine Off.b ?_ | refine Off.p ?_ | refine Off.s ?_ ?_ | omega))
  replace o7 := I.keep o7 (by repeat' (first | exact trivial | refine Off.v ?_ | refine Off.k ?_ | refine Off.b ?_ | refine Off.p ?_ | refine Off.s ?_ ?_ | omega))
  replace o9 := I.keep o9 (by repeat' (first | exact trivial | refine Off.v ?_ | refine Off.k ?_ | refine Off.b ?_ | refine Off.p ?_ | refine Off.s ?_ ?_ | omega))
  replace o11 := I.keep o11 (by repeat' (first | exact trivial | refine Off.v ?_ | refine Off.k ?_ | refine Off.b ?_ | refine Off.p ?_ | refine Off.s ?_ ?_ | omega))
  have hW4 : Below w.heap.size w W4 := then_ hW3 I.below hW3.size
  clear e13
  clear I
  simp only [List.foldl_cons, List.foldl_nil, List.setIfInBounds_toArray, List.set_cons_zero, List.set_cons_succ]
  clear F1 F2 F3 F4
  go_upto_region 5 with fail
  have HP : Pow10 W4 := hp.keep hW4
  refine region_memo_f (B := W4.heap.size) (L := .val (.bool true) :: .val (.bool false) :: .val (.bool false) :: .val (.agg #[.int .u64 (L0 y), .int .u64 (L1 y), .int .u64 (L2 y), .int .u64 (L3 y)]) :: .val (.agg #[.int .u64 (L0 y), .int .u64 (L1 y), .int .u64 (L2 y), .int .u64 (L3 y)]) :: .val (.bool false) :: .val (.bool false) :: .val (.bool false) :: .val (.int .i64 ey) :: .val (.int .i64 ey) :: .val (.bool false) :: .val (.bool false) :: .val (.bool false) :: .val (.agg #[.int .u64 (L0 q), .int .u64 (L1 q), .int .u64 (L2 q), .int .u64 (L3 q)]) :: .val (.agg #[.int .u64 (L0 q), .int .u64 (L1 q), .int .u64 (L2 q), .int .u64 (L3 q)]) :: .val (.bool false) :: .val (.bool false) :: .val (.bool false) :: .val (.int .i64 eq) :: .val (.int .i64 eq) :: .val (.bool false) :: .val (.bool false) :: []) (by kernel_rfl) (Nat.le_refl _) ((by exact trivial))
    ⟨fun a w R => cl0 en_awake (awake_any _ (HP.keep R.below)), fun a w R => notb (R.val 0 rfl rfl rfl (by kernel_rfl)), fun a w R => mv (R.val 1 rfl rfl rfl (by kernel_rfl)), fun a w R => ld24 (R.slot 7 rfl) (R.keep o7 (by repeat' (first | exact trivial | refine Off.v ?_ | refine Off.k ?_ | refine Off.b ?_ | refine Off.p ?_ | refine Off.s ?_ ?_ | omega))), fun a w R => ld24 (R.slot 9 rfl) (R.keep o9 (by repeat' (first | exact trivial | refine Off.v ?_ | refine Off.k ?_ | refine Off.b ?_ | refine Off.p ?_ | refine Off.s ?_ ?_ | omega))), fun a w R => nqw (R.val 3 rfl rfl rfl (by kernel_rfl)) (R.val 4 rfl rfl rfl (by kernel_rfl)) (eq_i y), fun a w R => pickn (R.val 2 rfl rfl rfl (by kernel_rfl)) (R.val 5 rfl rfl rfl (by kernel_rfl)), fun a w R => mv (R.val 6 rfl rfl rfl (by kernel_rfl)), fun a w R => mv (R.slot 8 rfl), fun a w R => mv (R.slot 10 rfl), fun a w R => nqi (R.val 8 rfl rfl rfl (by kernel_rfl)) (R.val 9 rfl rfl rfl (by kernel_rfl)) (Tryd.underlying25) (by simp), fun a w R => pickn (R.val 7 rfl rfl rfl (by kernel_rfl)) (R.val 10 rfl rfl rfl (by kernel_rfl)), fun a w R => mv (R.val 11 rfl rfl rfl (by kernel_rfl)), fun a w R => ld24 (R.slot 11 rfl) (R.keep o11 (by repeat' (first | exact trivial | refine Off.v ?_ | refine Off.k ?_ | refine Off.b ?_ | refine Off.p ?_ | refine Off.s ?_ ?_ | omega))), fun a w R => ld24 (R.slot 13 rfl) (R.keep o13 (by repeat' (first | exact trivial | refine Off.v ?_ | refine Off.k ?_ | refine Off.b ?_ | refine Off.p ?_ | refine Off.s ?_ ?_ | omega))), fun a w R => nqw (R.val 13 rfl rfl rfl (by kernel_rfl)) (R.val 14 rfl rfl rfl (by kernel_rfl)) (eq_i q), fun a w R => pickn (R.val 12 rfl rfl rfl (by kernel_rfl)) (R.val 15 rfl rfl rfl (by kernel_rfl)), fun a w R => mv (R.val 16 rfl rfl rfl (by kernel_rfl)), fun a w R => mv (R.slot 12 rfl), fun a w R => mv (R.slot 14 rfl), fun a w R => nqi (R.val 18 rfl rfl rfl (by kernel_rfl)) (R.val 19 rfl rfl rfl (by kernel_rfl)) (Tryd.underlying25) (by simp), fun a w R => pickn (R.val 17 rfl rfl rfl (by kernel_rfl)) (R.val 20 rfl rfl rfl (by kernel_rfl)), trivial⟩ (fun a1 W5 I => ?_)
  rw [I.act [(47, (.bool true)), (48, (.bool false)), (49, (.bool false)), (50, (.agg #[.int .u64 (L0 y), .int .u64 (L1 y), .int .u64 (L2 y), .int .u64 (L3 y)])), (51, (.agg #[.int .u64 (L0 y), .int .u64 (L1 y), .int .u64 (L2 y), .int .u64 (L3 y)])), (52, (.bool false)), (53, (.bool false)), (54, (.bool false)), (55, (.int .i64 ey)), (56, (.int .i64 ey)), (57, (.bool false)), (58, (.bool false)), (59, (.bool false)), (60, (.agg #[.int .u64 (L0 q), .int .u64 (L1 q), .int .u64 (L2 q), .int .u64 (L3 q)])), (61, (.agg #[.int .u64 (L0 q), .int .u64 (L1 q), .int .u64 (L2 q), .int .u64 (L3 q)])), (62, (.bool false)), (63, (.bool false)), (64, (.bool false)), (65, (.int .i64 eq)), (66, (.int .i64 eq)), (67, (.bool false)), (68, (.bool false))]
    ⟨I.val 0 rfl rfl rfl, I.val 1 rfl rfl rfl, I.val 2 rfl rfl rfl, I.val 3 rfl rfl rfl, I.val 4 rfl rfl rfl, I.val 5 rfl rfl rfl, I.val 6 rfl rfl rfl, I.val 7 rfl rfl rfl, I.val 8 rfl rfl rfl, I.val 9 rfl rfl rfl, I.val 10 rfl rfl rfl, I.val 11 rfl rfl rfl, I.val 12 rfl rfl rfl, I.val 13 rfl rfl rfl, I.val 14 rfl rfl rfl, I.val 15 rfl rfl rfl, I.val 16 rfl rfl rfl, I.val 17 rfl rfl rfl, I.val 18 rfl rfl rfl, I.val 19 rfl rfl rfl, I.val 20 rfl rfl rfl, I.val 21 rfl rfl rfl, trivial⟩ rfl]
  have sW5 : W4.heap.size ≤ W5.heap.size := I.below.size
  replace OA := I.keep OA (by repeat' (first | exact trivial | refine Off.v ?_ | refine Off.k ?_ | refine Off.b ?_ | refine Off.p ?_ | refine Off.s ?_ ?_ | omega))
  replace OB := I.keep OB (by repeat' (first | exact trivial | refine Off.v ?_ | refine Off.k ?_ | refine Off.b ?_ | refine Off.p ?_ | refine Off.s ?_ ?_ | omega))
  replace OC := I.keep OC (by repeat' (first | exact trivial | refine Off.v ?_ | refine Off.k ?_ | refine Off.b ?_ | refine Off.p ?_ | refine Off.s ?_ ?_ | omega))
  replace o7 := I.keep o7 (by repeat' (first | exact trivial | refine Off.v ?_ | refine Off.k ?_ | refine Off.b ?_ | refine Off.p ?_ | refine Off.s ?_ ?_ | omega))
  replace o11 := I.keep o11 (by repeat' (first | exact trivial | refine Off.v ?_ | refine Off.k ?_ | refine Off.b ?_ | refine Off.p ?_ | refine Off.s ?_ ?_ | omega))
  have hW5 : Below w.heap.size w W5 := then_ hW4 I.below hW4.size
  clear I
  simp only [List.foldl_cons, List.foldl_nil, List.setIfInBounds_toArray, List.set_cons_zero, List.set_cons_succ]
  clear HP o9 o13
  go_upto_region 7 with fail
  refine region_memo_f (B := W5.heap.size) (L := .val (.agg #[.int .u64 (L0 y), .int .u64 (L1 y), .int .u64 (L2 y), .int .u64 (L3 y)]) :: .val (.agg #[.int .u64 (L0 z1), .int .u64 (L1 z1), .int .u64 (L2 z1), .int .u64 (L3 z1)]) :: .val (.tuple #[(.agg #[.int .u64 (L0 d), .int .u64 (L1 d), .int .u64 (L2 d), .int .u64 (L3 d)]), (.int .i64 ed)]) :: .val (.tuple #[(.agg #[.int .u64 (L0 d), .int .u64 (L1 d), .int .u64 (L2 d), .int .u64 (L3 d)]), (.int .i64 ed)]) :: .val (.agg #[.int .u64 (L0 d), .int .u64 (L1 d), .int .u64 (L2 d), .int .u64 (L3 d)]) :: .val (.int .i64 ed) :: .blk 24 4 :: .put 15 24 #[.int .u64 (L0 d), .int .u64 (L1 d), .int .u64 (L2 d), .int .u64 (L3 d)] :: .val (.int .i64 ed) :: []) (by kernel_rfl) (Nat.le_refl _) ((by exact trivial))
    ⟨fun a w R => ld24 (R.slot 7 rfl) (R.keep o7 (by repeat' (first | exact trivial | refine Off.v ?_ | refine Off.k ?_ | refine Off.b ?_ | refine Off.p ?_ | refine Off.s ?_ ?_ | omega))), fun a w R => ld24 (R.slot 4 rfl) (R.keep OB (by repeat' (first | exact trivial | refine Off.v ?_ | refine Off.k ?_ | refine Off.b ?_ | refine Off.p ?_ | refine Off.s ?_ ?_ | omega))), fun a w R => cl2 en_Sub (R.val 0 rfl rfl rfl (by kernel_rfl)) (R.val 1 rfl rfl rfl (by kernel_rfl)) (F5.out _), fun a w R => mv (R.val 2 rfl rfl rfl (by kernel_rfl)), fun a w R => ex0 (R.val 3 rfl rfl rfl (by kernel_rfl)), fun a w R => ex1 (R.val 3 rfl rfl rfl (by kernel_rfl)), fun a w R => al24, fun a w R => sb24 (R.dep 6 rfl (by kernel_rfl)) (R.val 4 rfl rfl rfl (by kernel_rfl)), fun a w R => asg (R.val 5 rfl rfl rfl (by kernel_rfl)), trivial⟩ (fun a1 W6 I => ?_)
  obtain ⟨b15, e15, l15, o15⟩ := I.put 7 rfl rfl
  rw [I.act [(70, (.agg #[.int .u64 (L0 y), .int .u64 (L1 y), .int .u64 (L2 y), .int .u64 (L3 y)])), (71, (.agg #[.int .u64 (L0 z1), .int .u64 (L1 z1), .int .u64 (L2 z1), .int .u64 (L3 z1)])), (72, (.tuple #[(.agg #[.int .u64 (L0 d), .int .u64 (L1 d), .int .u64 (L2 d), .int .u64 (L3 d)]), (.int .i64 ed)])), (69, (.tuple #[(.agg #[.int .u64 (L0 d), .int .u64 (L1 d), .int .u64 (L2 d), .int .u64 (L3 d)]), (.int .i64 ed)])), (73, (.agg #[.int .u64 (L0 d), .int .u64 (L1 d), .int .u64 (L2 d), .int .u64 (L3 d)])), (74, (.int .i64 ed)), (15, .pointer (some ⟨b15, 0, none⟩)), (16, (.int .i64 ed))]
    ⟨I.val 0 rfl rfl rfl, I.val 1 rfl rfl rfl, I.val 2 rfl rfl rfl, I.val 3 rfl rfl rfl, I.val 4 rfl rfl rfl, I.val 5 rfl rfl rfl, e15, I.val 8 rfl rfl rfl, trivial⟩ rfl]
  change W5.heap.size ≤ b15 at l15
  have sW6 : W5.heap.size ≤ W6.heap.size := I.below.size
  replace OA := I.keep OA (by repeat' (first | exact trivial | refine Off.v ?_ | refine Off.k ?_ | refine Off.b ?_ | refine Off.p ?_ | refine Off.s ?_ ?_ | omega))
  replace OB := I.keep OB (by repeat' (first | exact trivial | refine Off.v ?_ | refine Off.k ?_ | refine Off.b ?_ | refine Off.p ?_ | refine Off.s ?_ ?_ | omega))
  replace OC := I.keep OC (by repeat' (first | exact trivial | refine Off.v ?_ | refine Off.k ?_ | refine Off.b ?_ | refine Off.p ?_ | refine Off.s ?_ ?_ | omega))
  replace o7 := I.keep o7 (by repeat' (first | exact trivial | refine Off.v ?_ | refine Off.k ?_ | refine Off.b ?_ | refine Off.p ?_ | refine Off.s ?_ ?_ | omega))
  replace o11 := I.keep o11 (by repeat' (first | exact trivial | refine Off.v ?_ | refine Off.k ?_ | refine Off.b ?_ | refine Off.p ?_ | refine Off.s ?_ ?_ | omega))
  have hW6 : Below w.heap.size w W6 := then_ hW5 I.below hW5.size
  clear e15
  clear I
  simp only [List.foldl_cons, List.foldl_nil, List.setIfInBounds_toArray, List.set_cons_zero, List.set_cons_succ]
  clear F5
  go_upto_region 8 with fail
  by_cases he : ey = 0
  · obtain ⟨g1, g2⟩ := HD.out he
    subst he g1
    rw [g2] at o15
    clear g2
    refine region_memo_f (B := W6.heap.size) (L := .val (.int .i64 0) :: .val (.bool true) :: .val (.bool true) :: .val (.int .i64 0) :: .val (.bool false) :: .val (.bool false) :: .val (.agg #[.int .u64 (L0 z0), .int .u64 (L1 z0), .int .u64 (L2 z0), .int .u64 (L3 z0)]) :: .val (.agg #[.int .u64 (L0 z0), .int .u64 (L1 z0), .int .u64 (L2 z0), .int .u64 (L3 z0)]) :: .val (.bool false) :: .val (.bool false) :: .val (.bool false) :: []) (by kernel_rfl) (Nat.le_refl _) ((by exact trivial))
      ⟨fun a w R => mv (R.slot 8 rfl), fun a w R => eqk (R.val 0 rfl rfl rfl (by kernel_rfl)) (Tryd.underlying25) rfl, fun a w R => mv (R.val 1 rfl rfl rfl (by kernel_rfl)), fun a w R => mv (R.slot 16 rfl), fun a w R => nqk (R.val 3 rfl rfl rfl (by kernel_rfl)) (Tryd.underlying25) rfl, fun a w R => mv (R.val 4 rfl rfl rfl (by kernel_rfl)), fun a w R => ld24 (R.slot 15 rfl) (R.keep o15 (by repeat' (first | exact trivial | refine Off.v ?_ | refine Off.k ?_ | refine Off.b ?_ | refine Off.p ?_ | refine Off.s ?_ ?_ | omega))), fun a w R => ld24 (R.slot 3 rfl) (R.keep OA (by repeat' (first | exact trivial | refine Off.v ?_ | refine Off.k ?_ | refine Off.b ?_ | refine Off.p ?_ | refine Off.s ?_ ?_ | omega))), fun a w R => nqw (R.val 6 rfl rfl rfl (by kernel_rfl)) (R.val 7 rfl rfl rfl (by kernel_rfl)) (eq_i z0), fun a w R => pickn (R.val 5 rfl rfl rfl (by kernel_rfl)) (R.val 8 rfl rfl rfl (by kernel_rfl)), fun a w R => pickt (R.val 2 rfl rfl rfl (by kernel_rfl)) (R.val 9 rfl rfl rfl (by kernel_rfl)), trivial⟩ (fun a1 W7 I => ?_)
    rw [I.act [(75, (.int .i64 0)), (76, (.bool true)), (77, (.bool true)), (78, (.int .i64 0)), (79, (.bool false)), (80, (.bool false)), (81, (.agg #[.int .u64 (L0 z0), .int .u64 (L1 z0), .int .u64 (L2 z0), .int .u64 (L3 z0)])), (82, (.agg #[.int .u64 (L0 z0), .int .u64 (L1 z0), .int .u64 (L2 z0), .int .u64 (L3 z0)])), (83, (.bool false)), (84, (.bool false)), (85, (.bool false))]
      ⟨I.val 0 rfl rfl rfl, I.val 1 rfl rfl rfl, I.val 2 rfl rfl rfl, I.val 3 rfl rfl rfl, I.val 4 rfl rfl rfl, I.val 5 rfl rfl rfl, I.val 6 rfl rfl rfl, I.val 7 rfl rfl rfl, I.val 8 rfl rfl rfl, I.val 9 rfl rfl rfl, I.val 10 rfl rfl rfl, trivial⟩ rfl]
    have sW7 : W6.heap.size ≤ W7.heap.size := I.below.size
    replace OA := I.keep OA (by repeat' (first | exact trivial | refine Off.v ?_ | refine Off.k ?_ | refine Off.b ?_ | refine Off.p ?_ | refine Off.s ?_ ?_ | omega))
    replace OB := I.keep OB (by repeat' (first | exact trivial | refine Off.v ?_ | refine Off.k ?_ | refine Off.b ?_ | refine Off.p ?_ | refine Off.s ?_ ?_ | omega))
    replace OC := I.keep OC (by repeat' (first | exact trivial | refine Off.v ?_ | refine Off.k ?_ | refine Off.b ?_ | refine Off.p ?_ | refine Off.s ?_ ?_ | omega))
    replace o11 := I.keep o11 (by repeat' (first | exact trivial | refine Off.v ?_ | refine Off.k ?_ | refine Off.b ?_ | refine Off.p ?_ | refine Off.s ?_ ?_ | omega))
    replace o15 := I.keep o15 (by repeat' (first | exact trivial | refine Off.v ?_ | refine Off.k ?_ | refine Off.b ?_ | refine Off.p ?_ | refine Off.s ?_ ?_ | omega))
    have hW7 : Below w.heap.size w W7 := then_ hW6 I.below hW6.size
    clear I
    simp only [List.foldl_cons, List.foldl_nil, List.setIfInBounds_toArray, List.set_cons_zero, List.set_cons_succ]
    clear o15
    go_upto_region 10 with fail
    refine region_memo_f (B := W7.heap.size) (L := .val (.agg #[.int .u64 (L0 z1), .int .u64 (L1 z1), .int .u64 (L2 z1), .int .u64 (L3 z1)]) :: .val (.agg #[.int .u64 (L0 z2), .int .u64 (L1 z2), .int .u64 (L2 z2), .int .u64 (L3 z2)]) :: .val (.tuple #[(.agg #[.int .u64 (L0 s), .int .u64 (L1 s), .int .u64 (L2 s), .int .u64 (L3 s)]), (.int .i64 es)]) :: .val (.tuple #[(.agg #[.int .u64 (L0 s), .int .u64 (L1 s), .int .u64 (L2 s), .int .u64 (L3 s)]), (.int .i64 es)]) :: .val (.agg #[.int .u64 (L0 s), .int .u64 (L1 s), .int .u64 (L2 s), .int .u64 (L3 s)]) :: .val (.int .i64 es) :: .blk 24 4 :: .put 17 24 #[.int .u64 (L0 s), .int .u64 (L1 s), .int .u64 (L2 s), .int .u64 (L3 s)] :: .val (.int .i64 es) :: []) (by kernel_rfl) (Nat.le_refl _) ((by exact trivial))
      ⟨fun a w R => ld24 (R.slot 4 rfl) (R.keep OB (by repeat' (first | exact trivial | refine Off.v ?_ | refine Off.k ?_ | refine Off.b ?_ | refine Off.p ?_ | refine Off.s ?_ ?_ | omega))), fun a w R => ld24 (R.slot 5 rfl) (R.keep OC (by repeat' (first | exact trivial | refine Off.v ?_ | refine Off.k ?_ | refine Off.b ?_ | refine Off.p ?_ | refine Off.s ?_ ?_ | omega))), fun a w R => cl2 en_Add (R.val 0 rfl rfl rfl (by kernel_rfl)) (R.val 1 rfl rfl rfl (by kernel_rfl)) (F6.out _), fun a w R => mv (R.val 2 rfl rfl rfl (by kernel_rfl)), fun a w R => ex0 (R.val 3 rfl rfl rfl (by kernel_rfl)), fun a w R => ex1 (R.val 3 rfl rfl rfl (by kernel_rfl)), fun a w R => al24, fun a w R => sb24 (R.dep 6 rfl (by kernel_rfl)) (R.val 4 rfl rfl rfl (by kernel_rfl)), fun a w R => asg (R.val 5 rfl rfl rfl (by kernel_rfl)), trivial⟩ (fun a1 W8 I => ?_)
    obtain ⟨b17, e17, l17, o17⟩ := I.put 7 rfl rfl
    rw [I.act [(87, (.agg #[.int .u64 (L0 z1), .int .u64 (L1 z1), .int .u64 (L2 z1), .int .u64 (L3 z1)])), (88, (.agg #[.int .u64 (L0 z2), .int .u64 (L1 z2), .int .u64 (L2 z2), .int .u64 (L3 z2)])), (89, (.tuple #[(.agg #[.int .u64 (L0 s), .int .u64 (L1 s), .int .u64 (L2 s), .int .u64 (L3 s)]), (.int .i64 es)])), (86, (.tuple #[(.agg #[.int .u64 (L0 s), .int .u64 (L1 s), .int .u64 (L2 s), .int .u64 (L3 s)]), (.int .i64 es)])), (90, (.agg #[.int .u64 (L0 s), .int .u64 (L1 s), .int .u64 (L2 s), .int .u64 (L3 s)])), (91, (.int .i64 es)), (17, .pointer (some ⟨b17, 0, none⟩)), (8, (.int .i64 es))]
      ⟨I.val 0 rfl rfl rfl, I.val 1 rfl rfl rfl, I.val 2 rfl rfl rfl, I.val 3 rfl rfl rfl, I.val 4 rfl rfl rfl, I.val 5 rfl rfl rfl, e17, I.val 8 rfl rfl rfl, trivial⟩ rfl]
    change W7.heap.size ≤ b17 at l17
    have sW8 : W7.heap.size ≤ W8.heap.size := I.below.size
    replace OA := I.keep OA (by repeat' (first | exact trivial | refine Off.v ?_ | refine Off.k ?_ | refine Off.b ?_ | refine Off.p ?_ | refine Off.s ?_ ?_ | omega))
    replace OB := I.keep OB (by repeat' (first | exact trivial | refine Off.v ?_ | refine Off.k ?_ | refine Off.b ?_ | refine Off.p ?_ | refine Off.s ?_ ?_ | omega))
    replace OC := I.keep OC (by repeat' (first | exact trivial | refine Off.v ?_ | refine Off.k ?_ | refine Off.b ?_ | refine Off.p ?_ | refine Off.s ?_ ?_ | omega))
    replace o11 := I.keep o11 (by repeat' (first | exact trivial | refine Off.v ?_ | refine Off.k ?_ | refine Off.b ?_ | refine Off.p ?_ | refine Off.s ?_ ?_ | omega))
    have hW8 : Below w.heap.size w W8 := then_ hW7 I.below hW7.size
    clear e17
    clear I
    simp only [List.foldl_cons, List.foldl_nil, List.setIfInBounds_toArray, List.set_cons_zero, List.set_cons_succ]
    go_upto_region 11 with fail
    refine region_memo_f (B := W8.heap.size) (L := .val (.agg #[.int .u64 (L0 z0), .int .u64 (L1 z0), .int .u64 (L2 z0), .int .u64 (L3 z0)]) :: .val (.agg #[.int .u64 (L0 s), .int .u64 (L1 s), .int .u64 (L2 s), .int .u64 (L3 s)]) :: .val (.tuple #[(.agg #[.int .u64 (L0 l), .int .u64 (L1 l), .int .u64 (L2 l), .int .u64 (L3 l)]), (.int .i64 el)]) :: .val (.tuple #[(.agg #[.int .u64 (L0 l), .int .u64 (L1 l), .int .u64 (L2 l), .int .u64 (L3 l)]), (.int .i64 el)]) :: .val (.agg #[.int .u64 (L0 l), .int .u64 (L1 l), .int .u64 (L2 l), .int .u64 (L3 l)]) :: .val (.int .i64 el) :: .blk 24 4 :: .put 18 24 #[.int .u64 (L0 l), .int .u64 (L1 l), .int .u64 (L2 l), .int .u64 (L3 l)] :: .val (.int .i64 el) :: []) (by kernel_rfl) (Nat.le_refl _) ((by exact trivial))
      ⟨fun a w R => ld24 (R.slot 3 rfl) (R.keep OA (by repeat' (first | exact trivial | refine Off.v ?_ | refine Off.k ?_ | refine Off.b ?_ | refine Off.p ?_ | refine Off.s ?_ ?_ | omega))), fun a w R => ld24 (R.slot 17 rfl) (R.keep o17 (by repeat' (first | exact trivial | refine Off.v ?_ | refine Off.k ?_ | refine Off.b ?_ | refine Off.p ?_ | refine Off.s ?_ ?_ | omega))), fun a w R => cl2 en_Mul (R.val 0 rfl rfl rfl (by kernel_rfl)) (R.val 1 rfl rfl rfl (by kernel_rfl)) (F7.out _), fun a w R => mv (R.val 2 rfl rfl rfl (by kernel_rfl)), fun a w R => ex0 (R.val 3 rfl rfl rfl (by kernel_rfl)), fun a w R => ex1 (R.val 3 rfl rfl rfl (by kernel_rfl)), fun a w R => al24, fun a w R => sb24 (R.dep 6 rfl (by kernel_rfl)) (R.val 4 rfl rfl rfl (by kernel_rfl)), fun a w R => asg (R.val 5 rfl rfl rfl (by kernel_rfl)), trivial⟩ (fun a1 W9 I => ?_)
    obtain ⟨b18, e18, l18, o18⟩ := I.put 7 rfl rfl
    rw [I.act [(93, (.agg #[.int .u64 (L0 z0), .int .u64 (L1 z0), .int .u64 (L2 z0), .int .u64 (L3 z0)])), (94, (.agg #[.int .u64 (L0 s), .int .u64 (L1 s), .int .u64 (L2 s), .int .u64 (L3 s)])), (95, (.tuple #[(.agg #[.int .u64 (L0 l), .int .u64 (L1 l), .int .u64 (L2 l), .int .u64 (L3 l)]), (.int .i64 el)])), (92, (.tuple #[(.agg #[.int .u64 (L0 l), .int .u64 (L1 l), .int .u64 (L2 l), .int .u64 (L3 l)]), (.int .i64 el)])), (96, (.agg #[.int .u64 (L0 l), .int .u64 (L1 l), .int .u64 (L2 l), .int .u64 (L3 l)])), (97, (.int .i64 el)), (18, .pointer (some ⟨b18, 0, none⟩)), (10, (.int .i64 el))]
      ⟨I.val 0 rfl rfl rfl, I.val 1 rfl rfl rfl, I.val 2 rfl rfl rfl, I.val 3 rfl rfl rfl, I.val 4 rfl rfl rfl, I.val 5 rfl rfl rfl, e18, I.val 8 rfl rfl rfl, trivial⟩ rfl]
    change W8.heap.size ≤ b18 at l18
    have sW9 : W8.heap.size ≤ W9.heap.size := I.below.size
    replace OA := I.keep OA (by repeat' (first | exact trivial | refine Off.v ?_ | refine Off.k ?_ | refine Off.b ?_ | refine Off.p ?_ | refine Off.s ?_ ?_ | omega))
    replace OB := I.keep OB (by repeat' (first | exact trivial | refine Off.v ?_ | refine Off.k ?_ | refine Off.b ?_ | refine Off.p ?_ | refine Off.s ?_ ?_ | omega))
    replace OC := I.keep OC (by repeat' (first | exact trivial | refine Off.v ?_ | refine Off.k ?_ | refine Off.b ?_ | refine Off.p ?_ | refine Off.s ?_ ?_ | omega))
    replace o11 := I.keep o11 (by repeat' (first | exact trivial | refine Off.v ?_ | refine Off.k ?_ | refine Off.b ?_ | refine Off.p ?_ | refine Off.s ?_ ?_ | omega))
    replace o17 := I.keep o17 (by repeat' (first | exact trivial | refine Off.v ?_ | refine Off.k ?_ | refine Off.b ?_ | refine Off.p ?_ | refine Off.s ?_ ?_ | omega))
    have hW9 : Below w.heap.size w W9 := then_ hW8 I.below hW8.size
    clear e18
    clear I
    simp only [List.foldl_cons, List.foldl_nil, List.setIfInBounds_toArray, List.set_cons_zero, List.set_cons_succ]
    go_upto_region 12 with fail
    refine region_memo_f (B := W9.heap.size) (L := .val (.agg #[.int .u64 (L0 z0), .int .u64 (L1 z0), .int .u64 (L2 z0), .int .u64 (L3 z0)]) :: .val (.agg #[.int .u64 (L0 z2), .int .u64 (L1 z2), .int .u64 (L2 z2), .int .u64 (L3 z2)]) :: .val (.tuple #[(.agg #[.int .u64 (L0 r), .int .u64 (L1 r), .int .u64 (L2 r), .int .u64 (L3 r)]), (.int .i64 er)]) :: .val (.tuple #[(.agg #[.int .u64 (L0 r), .int .u64 (L1 r), .int .u64 (L2 r), .int .u64 (L3 r)]), (.int .i64 er)]) :: .val (.agg #[.int .u64 (L0 r), .int .u64 (L1 r), .int .u64 (L2 r), .int .u64 (L3 r)]) :: .val (.int .i64 er) :: .blk 24 4 :: .put 19 24 #[.int .u64 (L0 r), .int .u64 (L1 r), .int .u64 (L2 r), .int .u64 (L3 r)] :: .val (.int .i64 er) :: []) (by kernel_rfl) (Nat.le_refl _) ((by exact trivial))
      ⟨fun a w R => ld24 (R.slot 3 rfl) (R.keep OA (by repeat' (first | exact trivial | refine Off.v ?_ | refine Off.k ?_ | refine Off.b ?_ | refine Off.p ?_ | refine Off.s ?_ ?_ | omega))), fun a w R => ld24 (R.slot 5 rfl) (R.keep OC (by repeat' (first | exact trivial | refine Off.v ?_ | refine Off.k ?_ | refine Off.b ?_ | refine Off.p ?_ | refine Off.s ?_ ?_ | omega))), fun a w R => cl2 en_Mul (R.val 0 rfl rfl rfl (by kernel_rfl)) (R.val 1 rfl rfl rfl (by kernel_rfl)) (F8.out _), fun a w R => mv (R.val 2 rfl rfl rfl (by kernel_rfl)), fun a w R => ex0 (R.val 3 rfl rfl rfl (by kernel_rfl)), fun a w R => ex1 (R.val 3 rfl rfl rfl (by kernel_rfl)), fun a w R => al24, fun a w R => sb24 (R.dep 6 rfl (by kernel_rfl)) (R.val 4 rfl rfl rfl (by kernel_rfl)), fun a w R => asg (R.val 5 rfl rfl rfl (by kernel_rfl)), trivial⟩ (fun a1 W10 I => ?_)
    obtain ⟨b19, e19, l19, o19⟩ := I.put 7 rfl rfl
    rw [I.act [(99, (.agg #[.int .u64 (L0 z0), .int .u64 (L1 z0), .int .u64 (L2 z0), .int .u64 (L3 z0)])), (100, (.agg #[.int .u64 (L0 z2), .int .u64 (L1 z2), .int .u64 (L2 z2), .int .u64 (L3 z2)])), (101, (.tuple #[(.agg #[.int .u64 (L0 r), .int .u64 (L1 r), .int .u64 (L2 r), .int .u64 (L3 r)]), (.int .i64 er)])), (98, (.tuple #[(.agg #[.int .u64 (L0 r), .int .u64 (L1 r), .int .u64 (L2 r), .int .u64 (L3 r)]), (.int .i64 er)])), (102, (.agg #[.int .u64 (L0 r), .int .u64 (L1 r), .int .u64 (L2 r), .int .u64 (L3 r)])), (103, (.int .i64 er)), (19, .pointer (some ⟨b19, 0, none⟩)), (20, (.int .i64 er))]
      ⟨I.val 0 rfl rfl rfl, I.val 1 rfl rfl rfl, I.val 2 rfl rfl rfl, I.val 3 rfl rfl rfl, I.val 4 rfl rfl rfl, I.val 5 rfl rfl rfl, e19, I.val 8 rfl rfl rfl, trivial⟩ rfl]
    change W9.heap.size ≤ b19 at l19
    have sW10 : W9.heap.size ≤ W10.heap.size := I.below.size
    replace OA := I.keep OA (by repeat' (first | exact trivial | refine Off.v ?_ | refine Off.k ?_ | refine Off.b ?_ | refine Off.p ?_ | refine Off.s ?_ ?_ | omega))
    replace OB := I.keep OB (by repeat' (first | exact trivial | refine Off.v ?_ | refine Off.k ?_ | refine Off.b ?_ | refine Off.p ?_ | refine Off.s ?_ ?_ | omega))
    replace OC := I.keep OC (by repeat' (first | exact trivial | refine Off.v ?_ | refine Off.k ?_ | refine Off.b ?_ | refine Off.p ?_ | refine Off.s ?_ ?_ | omega))
    replace o11 := I.keep o11 (by repeat' (first | exact trivial | refine Off.v ?_ | refine Off.k ?_ | refine Off.b ?_ | refine Off.p ?_ | refine Off.s ?_ ?_ | omega))
    replace o17 := I.keep o17 (by repeat' (first | exact trivial | refine Off.v ?_ | refine Off.k ?_ | refine Off.b ?_ | refine Off.p ?_ | refine Off.s ?_ ?_ | omega))
    replace o18 := I.keep o18 (by repeat' (first | exact trivial | refine Off.v ?_ | refine Off.k ?_ | refine Off.b ?_ | refine Off.p ?_ | refine Off.s ?_ ?_ | omega))
    have hW10 : Below w.heap.size w W10 := then_ hW9 I.below hW9.size
    clear e19
    clear I
    simp only [List.foldl_cons, List.foldl_nil, List.setIfInBounds_toArray, List.set_cons_zero, List.set_cons_succ]
    go_upto_region 13 with fail
    refine region_memo_f (B := W10.heap.size) (L := .val (.agg #[.int .u64 (L0 q), .int .u64 (L1 q), .int .u64 (L2 q), .int .u64 (L3 q)]) :: .val (.agg #[.int .u64 (L0 r), .int .u64 (L1 r), .int .u64 (L2 r), .int .u64 (L3 r)]) :: .val (.tuple #[(.agg #[.int .u64 (L0 t), .int .u64 (L1 t), .int .u64 (L2 t), .int .u64 (L3 t)]), (.int .i64 et)]) :: .val (.tuple #[(.agg #[.int .u64 (L0 t), .int .u64 (L1 t), .int .u64 (L2 t), .int .u64 (L3 t)]), (.int .i64 et)]) :: .val (.agg #[.int .u64 (L0 t), .int .u64 (L1 t), .int .u64 (L2 t), .int .u64 (L3 t)]) :: .val (.int .i64 et) :: .blk 24 4 :: .put 21 24 #[.int .u64 (L0 t), .int .u64 (L1 t), .int .u64 (L2 t), .int .u64 (L3 t)] :: .val (.int .i64 et) :: []) (by kernel_rfl) (Nat.le_refl _) ((by exact trivial))
      ⟨fun a w R => ld24 (R.slot 11 rfl) (R.keep o11 (by repeat' (first | exact trivial | refine Off.v ?_ | refine Off.k ?_ | refine Off.b ?_ | refine Off.p ?_ | refine Off.s ?_ ?_ | omega))), fun a w R => ld24 (R.slot 19 rfl) (R.keep o19 (by repeat' (first | exact trivial | refine Off.v ?_ | refine Off.k ?_ | refine Off.b ?_ | refine Off.p ?_ | refine Off.s ?_ ?_ | omega))), fun a w R => cl2 en_Add (R.val 0 rfl rfl rfl (by kernel_rfl)) (R.val 1 rfl rfl rfl (by kernel_rfl)) (F9.out _), fun a w R => mv (R.val 2 rfl rfl rfl (by kernel_rfl)), fun a w R => ex0 (R.val 3 rfl rfl rfl (by kernel_rfl)), fun a w R => ex1 (R.val 3 rfl rfl rfl (by kernel_rfl)), fun a w R => al24, fun a w R => sb24 (R.dep 6 rfl (by kernel_rfl)) (R.val 4 rfl rfl rfl (by kernel_rfl)), fun a w R => asg (R.val 5 rfl rfl rfl (by kernel_rfl)), trivial⟩ (fun a1 W11 I => ?_)
    obtain ⟨b21, e21, l21, o21⟩ := I.put 7 rfl rfl
    rw [I.act [(105, (.agg #[.int .u64 (L0 q), .int .u64 (L1 q), .int .u64 (L2 q), .int .u64 (L3 q)])), (106, (.agg #[.int .u64 (L0 r), .int .u64 (L1 r), .int .u64 (L2 r), .int .u64 (L3 r)])), (107, (.tuple #[(.agg #[.int .u64 (L0 t), .int .u64 (L1 t), .int .u64 (L2 t), .int .u64 (L3 t)]), (.int .i64 et)])), (104, (.tuple #[(.agg #[.int .u64 (L0 t), .int .u64 (L1 t), .int .u64 (L2 t), .int .u64 (L3 t)]), (.int .i64 et)])), (108, (.agg #[.int .u64 (L0 t), .int .u64 (L1 t), .int .u64 (L2 t), .int .u64 (L3 t)])), (109, (.int .i64 et)), (21, .pointer (some ⟨b21, 0, none⟩)), (22, (.int .i64 et))]
      ⟨I.val 0 rfl rfl rfl, I.val 1 rfl rfl rfl, I.val 2 rfl rfl rfl, I.val 3 rfl rfl rfl, I.val 4 rfl rfl rfl, I.val 5 rfl rfl rfl, e21, I.val 8 rfl rfl rfl, trivial⟩ rfl]
    change W10.heap.size ≤ b21 at l21
    have sW11 : W10.heap.size ≤ W11.heap.size := I.below.size
    replace OA := I.keep OA (by repeat' (first | exact trivial | refine Off.v ?_ | refine Off.k ?_ | refine Off.b ?_ | refine Off.p ?_ | refine Off.s ?_ ?_ | omega))
    replace OB := I.keep OB (by repeat' (first | exact trivial | refine Off.v ?_ | refine Off.k ?_ | refine Off.b ?_ | refine Off.p ?_ | refine Off.s ?_ ?_ | omega))
    replace OC := I.keep OC (by repeat' (first | exact trivial | refine Off.v ?_ | refine Off.k ?_ | refine Off.b ?_ | refine Off.p ?_ | refine Off.s ?_ ?_ | omega))
    replace o11 := I.keep o11 (by repeat' (first | exact trivial | refine Off.v ?_ | refine Off.k ?_ | refine Off.b ?_ | refine Off.p ?_ | refine Off.s ?_ ?_ | omega))
    replace o17 := I.keep o17 (by repeat' (first | exact trivial | refine Off.v ?_ | refine Off.k ?_ | refine Off.b ?_ | refine Off.p ?_ | refine Off.s ?_ ?_ | omega))
    replace o18 := I.keep o18 (by repeat' (first | exact trivial | refine Off.v ?_ | refine Off.k ?_ | refine Off.b ?_ | refine Off.p ?_ | refine Off.s ?_ ?_ | omega))
    replace o19 := I.keep o19 (by repeat' (first | exact trivial | refine Off.v ?_ | refine Off.k ?_ | refine Off.b ?_ | refine Off.p ?_ | refine Off.s ?_ ?_ | omega))
    have hW11 : Below w.heap.size w W11 := then_ hW10 I.below hW10.size
    clear e21
    clear I
    simp only [List.foldl_cons, List.foldl_nil, List.setIfInBounds_toArray, List.set_cons_zero, List.set_cons_succ]
    clear F6 F7 F8 F9
    go_upto_region 14 with fail
    by_cases h0 : es = 0
    · subst h0
      have n0 : (!((0 : Int) == 0)) = false := rfl
      by_cases h1 : el = 0
      · subst h1
        have n1 : (!((0 : Int) == 0)) = false := rfl
        by_cases h2 : eq = 0
        · subst h2
          have n2 : (!((0 : Int) == 0)) = false := rfl
          by_cases h3 : er = 0
          · subst h3
            have n3 : (!((0 : Int) == 0)) = false := rfl
            by_cases h4 : et = 0
            · subst h4
              have n4 : (!((0 : Int) == 0)) = false := rfl
              have hlt := HT.out rfl rfl rfl rfl rfl
              subst hlt
              refine region_memo_f (B := W11.heap.size) (L := .val (.int .i64 0) :: .val (.bool false) :: .val (.bool false) :: .val (.int .i64 0) :: .val (.bool false) :: .val (.bool false) :: .val (.bool false) :: .val (.int .i64 0) :: .val (.bool false) :: .val (.bool false) :: .val (.bool false) :: .val (.int .i64 0) :: .val (.bool false) :: .val (.bool false) :: .val (.bool false) :: .val (.int .i64 0) :: .val (.bool false) :: .val (.bool false) :: []) (by kernel_rfl) (Nat.le_refl _) ((by exact trivial))
                ⟨fun a w R => mv (R.slot 8 rfl), fun a w R => nqk (R.val 0 rfl rfl rfl (by kernel_rfl)) (Tryd.underlying25) n0, fun a w R => mv (R.val 1 rfl rfl rfl (by kernel_rfl)), fun a w R => mv (R.slot 10 rfl), fun a w R => nqk (R.val 3 rfl rfl rfl (by kernel_rfl)) (Tryd.underlying25) n1, fun a w R => pickn (R.val 2 rfl rfl rfl (by kernel_rfl)) (R.val 4 rfl rfl rfl (by kernel_rfl)), fun a w R => mv (R.val 5 rfl rfl rfl (by kernel_rfl)), fun a w R => mv (R.slot 12 rfl), fun a w R => nqk (R.val 7 rfl rfl rfl (by kernel_rfl)) (Tryd.underlying25) n2, fun a w R => pickn (R.val 6 rfl rfl rfl (by kernel_rfl)) (R.val 8 rfl rfl rfl (by kernel_rfl)), fun a w R => mv (R.val 9 rfl rfl rfl (by kernel_rfl)), fun a w R => mv (R.slot 20 rfl), fun a w R => nqk (R.val 11 rfl rfl rfl (by kernel_rfl)) (Tryd.underlying25) n3, fun a w R => pickn (R.val 10 rfl rfl rfl (by kernel_rfl)) (R.val 12 rfl rfl rfl (by kernel_rfl)), fun a w R => mv (R.val 13 rfl rfl rfl (by kernel_rfl)), fun a w R => mv (R.slot 22 rfl), fun a w R => nqk (R.val 15 rfl rfl rfl (by kernel_rfl)) (Tryd.underlying25) n4, fun a w R => pickn (R.val 14 rfl rfl rfl (by kernel_rfl)) (R.val 16 rfl rfl rfl (by kernel_rfl)), trivial⟩ (fun a1 W12 I => ?_)
              rw [I.act [(110, (.int .i64 0)), (111, (.bool false)), (112, (.bool false)), (113, (.int .i64 0)), (114, (.bool false)), (115, (.bool false)), (116, (.bool false)), (117, (.int .i64 0)), (118, (.bool false)), (119, (.bool false)), (120, (.bool false)), (121, (.int .i64 0)), (122, (.bool false)), (123, (.bool false)), (124, (.bool false)), (125, (.int .i64 0)), (126, (.bool false)), (127, (.bool false))]
                ⟨I.val 0 rfl rfl rfl, I.val 1 rfl rfl rfl, I.val 2 rfl rfl rfl, I.val 3 rfl rfl rfl, I.val 4 rfl rfl rfl, I.val 5 rfl rfl rfl, I.val 6 rfl rfl rfl, I.val 7 rfl rfl rfl, I.val 8 rfl rfl rfl, I.val 9 rfl rfl rfl, I.val 10 rfl rfl rfl, I.val 11 rfl rfl rfl, I.val 12 rfl rfl rfl, I.val 13 rfl rfl rfl, I.val 14 rfl rfl rfl, I.val 15 rfl rfl rfl, I.val 16 rfl rfl rfl, I.val 17 rfl rfl rfl, trivial⟩ rfl]
              have sW12 : W11.heap.size ≤ W12.heap.size := I.below.size
              replace o18 := I.keep o18 (by repeat' (first | exact trivial | refine Off.v ?_ | refine Off.k ?_ | refine Off.b ?_ | refine Off.p ?_ | refine Off.s ?_ ?_ | omega))
              replace o21 := I.keep o21 (by repeat' (first | exact trivial | refine Off.v ?_ | refine Off.k ?_ | refine Off.b ?_ | refine Off.p ?_ | refine Off.s ?_ ?_ | omega))
              have hW12 : Below w.heap.size w W12 := then_ hW11 I.below hW11.size
              clear I
              simp only [List.foldl_cons, List.foldl_nil, List.setIfInBounds_toArray, List.set_cons_zero, List.set_cons_succ]
              go_upto_region 16 with fail
              refine region_memo_f (B := W12.heap.size) (L := .val (.agg #[.int .u64 (L0 l), .int .u64 (L1 l), .int .u64 (L2 l), .int .u64 (L3 l)]) :: .val (.agg #[.int .u64 (L0 l), .int .u64 (L1 l), .int .u64 (L2 l), .int .u64 (L3 l)]) :: .val (.bool true) :: .val (.bool true) :: []) (by kernel_rfl) (Nat.le_refl _) ((by exact trivial))
                ⟨fun a w R => ld24 (R.slot 18 rfl) (R.keep o18 (by repeat' (first | exact trivial | refine Off.v ?_ | refine Off.k ?_ | refine Off.b ?_ | refine Off.p ?_ | refine Off.s ?_ ?_ | omega))), fun a w R => ld24 (R.slot 21 rfl) (R.keep o21 (by repeat' (first | exact trivial | refine Off.v ?_ | refine Off.k ?_ | refine Off.b ?_ | refine Off.p ?_ | refine Off.s ?_ ?_ | omega))), fun a w R => eqw (R.val 0 rfl rfl rfl (by kernel_rfl)) (R.val 1 rfl rfl rfl (by kernel_rfl)) (eq_i l), fun a w R => asg (R.val 2 rfl rfl rfl (by kernel_rfl)), trivial⟩ (fun a1 W13 I => ?_)
              rw [I.act [(128, (.agg #[.int .u64 (L0 l), .int .u64 (L1 l), .int .u64 (L2 l), .int .u64 (L3 l)])), (129, (.agg #[.int .u64 (L0 l), .int .u64 (L1 l), .int .u64 (L2 l), .int .u64 (L3 l)])), (130, (.bool true)), (6, (.bool true))]
                ⟨I.val 0 rfl rfl rfl, I.val 1 rfl rfl rfl, I.val 2 rfl rfl rfl, I.val 3 rfl rfl rfl, trivial⟩ rfl]
              have sW13 : W12.heap.size ≤ W13.heap.size := I.below.size
              replace o18 := I.keep o18 (by repeat' (first | exact trivial | refine Off.v ?_ | refine Off.k ?_ | refine Off.b ?_ | refine Off.p ?_ | refine Off.s ?_ ?_ | omega))
              replace o21 := I.keep o21 (by repeat' (first | exact trivial | refine Off.v ?_ | refine Off.k ?_ | refine Off.b ?_ | refine Off.p ?_ | refine Off.s ?_ ?_ | omega))
              have hW13 : Below w.heap.size w W13 := then_ hW12 I.below hW12.size
              clear I
              simp only [List.foldl_cons, List.foldl_nil, List.setIfInBounds_toArray, List.set_cons_zero, List.set_cons_succ]
              go_wp2
              go_ret
              exact ⟨rfl, hW13⟩
            · have n4 : (!(et == 0)) = true := by simpa using h4
              refine region_memo_f (B := W11.heap.size) (L := .val (.int .i64 0) :: .val (.bool false) :: .val (.bool false) :: .val (.int .i64 0) :: .val (.bool false) :: .val (.bool false) :: .val (.bool false) :: .val (.int .i64 0) :: .val (.bool false) :: .val (.bool false) :: .val (.bool false) :: .val (.int .i64 0) :: .val (.bool false) :: .val (.bool false) :: .val (.bool false) :: .val (.int .i64 et) :: .val (.bool true) :: .val (.bool true) :: []) (by kernel_rfl) (Nat.le_refl _) ((by exact trivial))
                ⟨fun a w R => mv (R.slot 8 rfl), fun a w R => nqk (R.val 0 rfl rfl rfl (by kernel_rfl)) (Tryd.underlying25) n0, fun a w R => mv (R.val 1 rfl rfl rfl (by kernel_rfl)), fun a w R => mv (R.slot 10 rfl), fun a w R => nqk (R.val 3 rfl rfl rfl (by kernel_rfl)) (Tryd.underlying25) n1, fun a w R => pickn (R.val 2 rfl rfl rfl (by kernel_rfl)) (R.val 4 rfl rfl rfl (by kernel_rfl)), fun a w R => mv (R.val 5 rfl rfl rfl (by kernel_rfl)), fun a w R => mv (R.slot 12 rfl), fun a w R => nqk (R.val 7 rfl rfl rfl (by kernel_rfl)) (Tryd.underlying25) n2, fun a w R => pickn (R.val 6 rfl rfl rfl (by kernel_rfl)) (R.val 8 rfl rfl rfl (by kernel_rfl)), fun a w R => mv (R.val 9 rfl rfl rfl (by kernel_rfl)), fun a w R => mv (R.slot 20 rfl), fun a w R => nqk (R.val 11 rfl rfl rfl (by kernel_rfl)) (Tryd.underlying25) n3, fun a w R => pickn (R.val 10 rfl rfl rfl (by kernel_rfl)) (R.val 12 rfl rfl rfl (by kernel_rfl)), fun a w R => mv (R.val 13 rfl rfl rfl (by kernel_rfl)), fun a w R => mv (R.slot 22 rfl), fun a w R => nqk (R.val 15 rfl rfl rfl (by kernel_rfl)) (Tryd.underlying25) n4, fun a w R => pickn (R.val 14 rfl rfl rfl (by kernel_rfl)) (R.val 16 rfl rfl rfl (by kernel_rfl)), trivial⟩ (fun a1 W12 I => ?_)
              rw [I.act [(110, (.int .i64 0)), (111, (.bool false)), (112, (.bool false)), (113, (.int .i64 0)), (114, (.bool false)), (115, (.bool false)), (116, (.bool false)), (117, (.int .i64 0)), (118, (.bool false)), (119, (.bool false)), (120, (.bool false)), (121, (.int .i64 0)), (122, (.bool false)), (123, (.bool false)), (124, (.bool false)), (125, (.int .i64 et)), (126, (.bool true)), (127, (.bool true))]
                ⟨I.val 0 rfl rfl rfl, I.val 1 rfl rfl rfl, I.val 2 rfl rfl rfl, I.val 3 rfl rfl rfl, I.val 4 rfl rfl rfl, I.val 5 rfl rfl rfl, I.val 6 rfl rfl rfl, I.val 7 rfl rfl rfl, I.val 8 rfl rfl rfl, I.val 9 rfl rfl rfl, I.val 10 rfl rfl rfl, I.val 11 rfl rfl rfl, I.val 12 rfl rfl rfl, I.val 13 rfl rfl rfl, I.val 14 rfl rfl rfl, I.val 15 rfl rfl rfl, I.val 16 rfl rfl rfl, I.val 17 rfl rfl rfl, trivial⟩ rfl]
              have sW12 : W11.heap.size ≤ W12.heap.size := I.below.size
              have hW12 : Below w.heap.size w W12 := then_ hW11 I.below hW11.size
              clear I
              simp only [List.foldl_cons, List.foldl_nil, List.setIfInBounds_toArray, List.set_cons_zero, List.set_cons_succ]
              go_wp2
              go_ret
              exact ⟨rfl, hW12⟩
          · have n3 : (!(er == 0)) = true := by simpa using h3
            refine region_memo_f (B := W11.heap.size) (L := .val (.int .i64 0) :: .val (.bool false) :: .val (.bool false) :: .val (.int .i64 0) :: .val (.bool false) :: .val (.bool false) :: .val (.bool false) :: .val (.int .i64 0) :: .val (.bool false) :: .val (.bool false) :: .val (.bool false) :: .val (.int .i64 er) :: .val (.bool true) :: .val (.bool true) :: .val (.bool true) :: .skip :: .skip :: .val (.bool true) :: []) (by kernel_rfl) (Nat.le_refl _) ((by exact trivial))
              ⟨fun a w R => mv (R.slot 8 rfl), fun a w R => nqk (R.val 0 rfl rfl rfl (by kernel_rfl)) (Tryd.underlying25) n0, fun a w R => mv (R.val 1 rfl rfl rfl (by kernel_rfl)), fun a w R => mv (R.slot 10 rfl), fun a w R => nqk (R.val 3 rfl rfl rfl (by kernel_rfl)) (Tryd.underlying25) n1, fun a w R => pickn (R.val 2 rfl rfl rfl (by kernel_rfl)) (R.val 4 rfl rfl rfl (by kernel_rfl)), fun a w R => mv (R.val 5 rfl rfl rfl (by kernel_rfl)), fun a w R => mv (R.slot 12 rfl), fun a w R => nqk (R.val 7 rfl rfl rfl (by kernel_rfl)) (Tryd.underlying25) n2, fun a w R => pickn (R.val 6 rfl rfl rfl (by kernel_rfl)) (R.val 8 rfl rfl rfl (by kernel_rfl)), fun a w R => mv (R.val 9 rfl rfl rfl (by kernel_rfl)), fun a w R => mv (R.slot 20 rfl), fun a w R => nqk (R.val 11 rfl rfl rfl (by kernel_rfl)) (Tryd.underlying25) n3, fun a w R => pickn (R.val 10 rfl rfl rfl (by kernel_rfl)) (R.val 12 rfl rfl rfl (by kernel_rfl)), fun a w R => mv (R.val 13 rfl rfl rfl (by kernel_rfl)), fun a w R => True.intro, fun a w R => True.intro, fun a w R => picko (R.val 14 rfl rfl rfl (by kernel_rfl)) (R.goneS 16 rfl rfl rfl (by kernel_rfl)), trivial⟩ (fun a1 W12 I => ?_)
            rw [I.act [(110, (.int .i64 0)), (111, (.bool false)), (112, (.bool false)), (113, (.int .i64 0)), (114, (.bool false)), (115, (.bool false)), (116, (.bool false)), (117, (.int .i64 0)), (118, (.bool false)), (119, (.bool false)), (120, (.bool false)), (121, (.int .i64 er)), (122, (.bool true)), (123, (.bool true)), (124, (.bool true)), (125, undef), (126, undef), (127, (.bool true))]
              ⟨I.val 0 rfl rfl rfl, I.val 1 rfl rfl rfl, I.val 2 rfl rfl rfl, I.val 3 rfl rfl rfl, I.val 4 rfl rfl rfl, I.val 5 rfl rfl rfl, I.val 6 rfl rfl rfl, I.val 7 rfl rfl rfl, I.val 8 rfl rfl rfl, I.val 9 rfl rfl rfl, I.val 10 rfl rfl rfl, I.val 11 rfl rfl rfl, I.val 12 rfl rfl rfl, I.val 13 rfl rfl rfl, I.val 14 rfl rfl rfl, I.gone 15 rfl rfl rfl, I.gone 16 rfl rfl rfl, I.val 17 rfl rfl rfl, trivial⟩ rfl]
            have sW12 : W11.heap.size ≤ W12.heap.size := I.below.size
            have hW12 : Below w.heap.size w W12 := then_ hW11 I.below hW11.size
            clear I
            simp only [List.foldl_cons, List.foldl_nil, List.setIfInBounds_toArray, List.set_cons_zero, List.set_cons_succ]
            go_wp2
            go_ret
            exact ⟨rfl, hW12⟩
        · have n2 : (!(eq == 0)) = true := by simpa using h2
          refine region_memo_f (B := W11.heap.size) (L := .val (.int .i64 0) :: .val (.bool false) :: .val (.bool false) :: .val (.int .i64 0) :: .val (.bool false) :: .val (.bool false) :: .val (.bool false) :: .val (.int .i64 eq) :: .val (.bool true) :: .val (.bool true) :: .val (.bool true) :: .skip :: .skip :: .val (.bool true) :: .val (.bool true) :: .skip :: .skip :: .val (.bool true) :: []) (by kernel_rfl) (Nat.le_refl _) ((by exact trivial))
            ⟨fun a w R => mv (R.slot 8 rfl), fun a w R => nqk (R.val 0 rfl rfl rfl (by kernel_rfl)) (Tryd.underlying25) n0, fun a w R => mv (R.val 1 rfl rfl rfl (by kernel_rfl)), fun a w R => mv (R.slot 10 rfl), fun a w R => nqk (R.val 3 rfl rfl rfl (by kernel_rfl)) (Tryd.underlying25) n1, fun a w R => pickn (R.val 2 rfl rfl rfl (by kernel_rfl)) (R.val 4 rfl rfl rfl (by kernel_rfl)), fun a w R => mv (R.val 5 rfl rfl rfl (by kernel_rfl)), fun a w R => mv (R.slot 12 rfl), fun a w R => nqk (R.val 7 rfl rfl rfl (by kernel_rfl)) (Tryd.underlying25) n2, fun a w R => pickn (R.val 6 rfl rfl rfl (by kernel_rfl)) (R.val 8 rfl rfl rfl (by kernel_rfl)), fun a w R => mv (R.val 9 rfl rfl rfl (by kernel_rfl)), fun a w R => True.intro, fun a w R => True.intro, fun a w R => picko (R.val 10 rfl rfl rfl (by kernel_rfl)) (R.goneS 12 rfl rfl rfl (by kernel_rfl)), fun a w R => mv (R.val 13 rfl rfl rfl (by kernel_rfl)), fun a w R => True.intro, fun a w R => True.intro, fun a w R => picko (R.val 14 rfl rfl rfl (by kernel_rfl)) (R.goneS 16 rfl rfl rfl (by kernel_rfl)), trivial⟩ (fun a1 W12 I => ?_)
          rw [I.act [(110, (.int .i64 0)), (111, (.bool false)), (112, (.bool false)), (113, (.int .i64 0)), (114, (.bool false)), (115, (.bool false)), (116, (.bool false)), (117, (.int .i64 eq)), (118, (.bool true)), (119, (.bool true)), (120, (.bool true)), (121, undef), (122, undef), (123, (.bool true)), (124, (.bool true)), (125, undef), (126, undef), (127, (.bool true))]
            ⟨I.val 0 rfl rfl rfl, I.val 1 rfl rfl rfl, I.val 2 rfl rfl rfl, I.val 3 rfl rfl rfl, I.val 4 rfl rfl rfl, I.val 5 rfl rfl rfl, I.val 6 rfl rfl rfl, I.val 7 rfl rfl rfl, I.val 8 rfl rfl rfl, I.val 9 rfl rfl rfl, I.val 10 rfl rfl rfl, I.gone 11 rfl rfl rfl, I.gone 12 rfl rfl rfl, I.val 13 rfl rfl rfl, I.val 14 rfl rfl rfl, I.gone 15 rfl rfl rfl, I.gone 16 rfl rfl rfl, I.val 17 rfl rfl rfl, trivial⟩ rfl]
          have sW12 : W11.heap.size ≤ W12.heap.size := I.below.size
          have hW12 : Below w.heap.size w W12 := then_ hW11 I.below hW11.size
          clear I
          simp only [List.foldl_cons, List.foldl_nil, List.setIfInBounds_toArray, List.set_cons_zero, List.set_cons_succ]
          go_wp2
          go_ret
          exact ⟨rfl, hW12⟩
      · have n1 : (!(el == 0)) = true := by simpa using h1
        refine region_memo_f (B := W11.heap.size) (L := .val (.int .i64 0) :: .val (.bool false) :: .val (.bool false) :: .val (.int .i64 el) :: .val (.bool true) :: .val (.bool true) :: .val (.bool true) :: .skip :: .skip :: .val (.bool true) :: .val (.bool true) :: .skip :: .skip :: .val (.bool true) :: .val (.bool true) :: .skip :: .skip :: .val (.bool true) :: []) (by kernel_rfl) (Nat.le_refl _) ((by exact trivial))
          ⟨fun a w R => mv (R.slot 8 rfl), fun a w R => nqk (R.val 0 rfl rfl rfl (by kernel_rfl)) (Tryd.underlying25) n0, fun a w R => mv (R.val 1 rfl rfl rfl (by kernel_rfl)), fun a w R => mv (R.slot 10 rfl), fun a w R => nqk (R.val 3 rfl rfl rfl (by kernel_rfl)) (Tryd.underlying25) n1, fun a w R => pickn (R.val 2 rfl rfl rfl (by kernel_rfl)) (R.val 4 rfl rfl rfl (by kernel_rfl)), fun a w R => mv (R.val 5 rfl rfl rfl (by kernel_rfl)), fun a w R => True.intro, fun a w R => True.intro, fun a w R => picko (R.val 6 rfl rfl rfl (by kernel_rfl)) (R.goneS 8 rfl rfl rfl (by kernel_rfl)), fun a w R => mv (R.val 9 rfl rfl rfl (by kernel_rfl)), fun a w R => True.intro, fun a w R => True.intro, fun a w R => picko (R.val 10 rfl rfl rfl (by kernel_rfl)) (R.goneS 12 rfl rfl rfl (by kernel_rfl)), fun a w R => mv (R.val 13 rfl rfl rfl (by kernel_rfl)), fun a w R => True.intro, fun a w R => True.intro, fun a w R => picko (R.val 14 rfl rfl rfl (by kernel_rfl)) (R.goneS 16 rfl rfl rfl (by kernel_rfl)), trivial⟩ (fun a1 W12 I => ?_)
        rw [I.act [(110, (.int .i64 0)), (111, (.bool false)), (112, (.bool false)), (113, (.int .i64 el)), (114, (.bool true)), (115, (.bool true)), (116, (.bool true)), (117, undef), (118, undef), (119, (.bool true)), (120, (.bool true)), (121, undef), (122, undef), (123, (.bool true)), (124, (.bool true)), (125, undef), (126, undef), (127, (.bool true))]
          ⟨I.val 0 rfl rfl rfl, I.val 1 rfl rfl rfl, I.val 2 rfl rfl rfl, I.val 3 rfl rfl rfl, I.val 4 rfl rfl rfl, I.val 5 rfl rfl rfl, I.val 6 rfl rfl rfl, I.gone 7 rfl rfl rfl, I.gone 8 rfl rfl rfl, I.val 9 rfl rfl rfl, I.val 10 rfl rfl rfl, I.gone 11 rfl rfl rfl, I.gone 12 rfl rfl rfl, I.val 13 rfl rfl rfl, I.val 14 rfl rfl rfl, I.gone 15 rfl rfl rfl, I.gone 16 rfl rfl rfl, I.val 17 rfl rfl rfl, trivial⟩ rfl]
        have sW12 : W11.heap.size ≤ W12.heap.size := I.below.size
        have hW12 : Below w.heap.size w W12 := then_ hW11 I.below hW11.size
        clear I
        simp only [List.foldl_cons, List.foldl_nil, List.setIfInBounds_toArray, List.set_cons_zero, List.set_cons_succ]
        go_wp2
        go_ret
        exact ⟨rfl, hW12⟩
    · have n0 : (!(es == 0)) = true := by simpa using h0
      refine region_memo_f (B := W11.heap.size) (L := .val (.int .i64 es) :: .val (.bool true) :: .val (.bool true) :: .skip :: .skip :: .val (.bool true) :: .val (.bool true) :: .skip :: .skip :: .val (.bool true) :: .val (.bool true) :: .skip :: .skip :: .val (.bool true) :: .val (.bool true) :: .skip :: .skip :: .val (.bool true) :: []) (by kernel_rfl) (Nat.le_refl _) ((by exact trivial))
        ⟨fun a w R => mv (R.slot 8 rfl), fun a w R => nqk (R.val 0 rfl rfl rfl (by kernel_rfl)) (Tryd.underlying25) n0, fun a w R => mv (R.val 1 rfl rfl rfl (by kernel_rfl)), fun a w R => True.intro, fun a w R => True.intro, fun a w R => picko (R.val 2 rfl rfl rfl (by kernel_rfl)) (R.goneS 4 rfl rfl rfl (by kernel_rfl)), fun a w R => mv (R.val 5 rfl rfl rfl (by kernel_rfl)), fun a w R => True.intro, fun a w R => True.intro, fun a w R => picko (R.val 6 rfl rfl rfl (by kernel_rfl)) (R.goneS 8 rfl rfl rfl (by kernel_rfl)), fun a w R => mv (R.val 9 rfl rfl rfl (by kernel_rfl)), fun a w R => True.intro, fun a w R => True.intro, fun a w R => picko (R.val 10 rfl rfl rfl (by kernel_rfl)) (R.goneS 12 rfl rfl rfl (by kernel_rfl)), fun a w R => mv (R.val 13 rfl rfl rfl (by kernel_rfl)), fun a w R => True.intro, fun a w R => True.intro, fun a w R => picko (R.val 14 rfl rfl rfl (by kernel_rfl)) (R.goneS 16 rfl rfl rfl (by kernel_rfl)), trivial⟩ (fun a1 W12 I => ?_)
      rw [I.act [(110, (.int .i64 es)), (111, (.bool true)), (112, (.bool true)), (113, undef), (114, undef), (115, (.bool true)), (116, (.bool true)), (117, undef), (118, undef), (119, (.bool true)), (120, (.bool true)), (121, undef), (122, undef), (123, (.bool true)), (124, (.bool true)), (125, undef), (126, undef), (127, (.bool true))]
        ⟨I.val 0 rfl rfl rfl, I.val 1 rfl rfl rfl, I.val 2 rfl rfl rfl, I.gone 3 rfl rfl rfl, I.gone 4 rfl rfl rfl, I.val 5 rfl rfl rfl, I.val 6 rfl rfl rfl, I.gone 7 rfl rfl rfl, I.gone 8 rfl rfl rfl, I.val 9 rfl rfl rfl, I.val 10 rfl rfl rfl, I.gone 11 rfl rfl rfl, I.gone 12 rfl rfl rfl, I.val 13 rfl rfl rfl, I.val 14 rfl rfl rfl, I.gone 15 rfl rfl rfl, I.gone 16 rfl rfl rfl, I.val 17 rfl rfl rfl, trivial⟩ rfl]
      have sW12 : W11.heap.size ≤ W12.heap.size := I.below.size
      have hW12 : Below w.heap.size w W12 := then_ hW11 I.below hW11.size
      clear I
      simp only [List.foldl_cons, List.foldl_nil, List.setIfInBounds_toArray, List.set_cons_zero, List.set_cons_succ]
      go_wp2
      go_ret
      exact ⟨rfl, hW12⟩
  · have ne : (ey == 0) = false := by simpa using he
    refine region_memo_f (B := W6.heap.size) (L := .val (.int .i64 ey) :: .val (.bool false) :: .val (.bool false) :: .skip :: .skip :: .skip :: .skip :: .skip :: .skip :: .skip :: .val (.bool false) :: []) (by kernel_rfl) (Nat.le_refl _) ((by exact trivial))
      ⟨fun a w R => mv (R.slot 8 rfl), fun a w R => eqk (R.val 0 rfl rfl rfl (by kernel_rfl)) (Tryd.underlying25) ne, fun a w R => mv (R.val 1 rfl rfl rfl (by kernel_rfl)), fun a w R => True.intro, fun a w R => True.intro, fun a w R => True.intro, fun a w R => True.intro, fun a w R => True.intro, fun a w R => True.intro, fun a w R => True.intro, fun a w R => pickf (R.val 2 rfl rfl rfl (by kernel_rfl)) (R.goneS 9 rfl rfl rfl (by kernel_rfl)), trivial⟩ (fun a1 W7 I => ?_)
    rw [I.act [(75, (.int .i64 ey)), (76, (.bool false)), (77, (.bool false)), (78, undef), (79, undef), (80, undef), (81, undef), (82, undef), (83, undef), (84, undef), (85, (.bool false))]
      ⟨I.val 0 rfl rfl rfl, I.val 1 rfl rfl rfl, I.val 2 rfl rfl rfl, I.gone 3 rfl rfl rfl, I.gone 4 rfl rfl rfl, I.gone 5 rfl rfl rfl, I.gone 6 rfl rfl rfl, I.gone 7 rfl rfl rfl, I.gone 8 rfl rfl rfl, I.gone 9 rfl rfl rfl, I.val 10 rfl rfl rfl, trivial⟩ rfl]
    have sW7 : W6.heap.size ≤ W7.heap.size := I.below.size
    replace OA := I.keep OA (by repeat' (first | exact trivial | refine Off.v ?_ | refine Off.k ?_ | refine Off.b ?_ | refine Off.p ?_ | refine Off.s ?_ ?_ | omega))
    replace OB := I.keep OB (by repeat' (first | exact trivial | refine Off.v ?_ | refine Off.k ?_ | refine Off.b ?_ | refine Off.p ?_ | refine Off.s ?_ ?_ | omega))
    replace OC := I.keep OC (by repeat' (first | exact trivial | refine Off.v ?_ | refine Off.k ?_ | refine Off.b ?_ | refine Off.p ?_ | refine Off.s ?_ ?_ | omega))
    replace o11 := I.keep o11 (by repeat' (first | exact trivial | refine Off.v ?_ | refine Off.k ?_ | refine Off.b ?_ | refine Off.p ?_ | refine Off.s ?_ ?_ | omega))
    have hW7 : Below w.heap.size w W7 := then_ hW6 I.below hW6.size
    clear I
    simp only [List.foldl_cons, List.foldl_nil, List.setIfInBounds_toArray, List.set_cons_zero, List.set_cons_succ]
    clear o15 ne he
    go_upto_region 10 with fail
    refine region_memo_f (B := W7.heap.size) (L := .val (.agg #[.int .u64 (L0 z1), .int .u64 (L1 z1), .int .u64 (L2 z1), .int .u64 (L3 z1)]) :: .val (.agg #[.int .u64 (L0 z2), .int .u64 (L1 z2), .int .u64 (L2 z2), .int .u64 (L3 z2)]) :: .val (.tuple #[(.agg #[.int .u64 (L0 s), .int .u64 (L1 s), .int .u64 (L2 s), .int .u64 (L3 s)]), (.int .i64 es)]) :: .val (.tuple #[(.agg #[.int .u64 (L0 s), .int .u64 (L1 s), .int .u64 (L2 s), .int .u64 (L3 s)]), (.int .i64 es)]) :: .val (.agg #[.int .u64 (L0 s), .int .u64 (L1 s), .int .u64 (L2 s), .int .u64 (L3 s)]) :: .val (.int .i64 es) :: .blk 24 4 :: .put 17 24 #[.int .u64 (L0 s), .int .u64 (L1 s), .int .u64 (L2 s), .int .u64 (L3 s)] :: .val (.int .i64 es) :: []) (by kernel_rfl) (Nat.le_refl _) ((by exact trivial))
      ⟨fun a w R => ld24 (R.slot 4 rfl) (R.keep OB (by repeat' (first | exact trivial | refine Off.v ?_ | refine Off.k ?_ | refine Off.b ?_ | refine Off.p ?_ | refine Off.s ?_ ?_ | omega))), fun a w R => ld24 (R.slot 5 rfl) (R.keep OC (by repeat' (first | exact trivial | refine Off.v ?_ | refine Off.k ?_ | refine Off.b ?_ | refine Off.p ?_ | refine Off.s ?_ ?_ | omega))), fun a w R => cl2 en_Add (R.val 0 rfl rfl rfl (by kernel_rfl)) (R.val 1 rfl rfl rfl (by kernel_rfl)) (F6.out _), fun a w R => mv (R.val 2 rfl rfl rfl (by kernel_rfl)), fun a w R => ex0 (R.val 3 rfl rfl rfl (by kernel_rfl)), fun a w R => ex1 (R.val 3 rfl rfl rfl (by kernel_rfl)), fun a w R => al24, fun a w R => sb24 (R.dep 6 rfl (by kernel_rfl)) (R.val 4 rfl rfl rfl (by kernel_rfl)), fun a w R => asg (R.val 5 rfl rfl rfl (by kernel_rfl)), trivial⟩ (fun a1 W8 I => ?_)
    obtain ⟨b17, e17, l17, o17⟩ := I.put 7 rfl rfl
    rw [I.act [(87, (.agg #[.int .u64 (L0 z1), .int .u64 (L1 z1), .int .u64 (L2 z1), .int .u64 (L3 z1)])), (88, (.agg #[.int .u64 (L0 z2), .int .u64 (L1 z2), .int .u64 (L2 z2), .int .u64 (L3 z2)])), (89, (.tuple #[(.agg #[.int .u64 (L0 s), .int .u64 (L1 s), .int .u64 (L2 s), .int .u64 (L3 s)]), (.int .i64 es)])), (86, (.tuple #[(.agg #[.int .u64 (L0 s), .int .u64 (L1 s), .int .u64 (L2 s), .int .u64 (L3 s)]), (.int .i64 es)])), (90, (.agg #[.int .u64 (L0 s), .int .u64 (L1 s), .int .u64 (L2 s), .int .u64 (L3 s)])), (91, (.int .i64 es)), (17, .pointer (some ⟨b17, 0, none⟩)), (8, (.int .i64 es))]
      ⟨I.val 0 rfl rfl rfl, I.val 1 rfl rfl rfl, I.val 2 rfl rfl rfl, I.val 3 rfl rfl rfl, I.val 4 rfl rfl rfl, I.val 5 rfl rfl rfl, e17, I.val 8 rfl rfl rfl, trivial⟩ rfl]
    change W7.heap.size ≤ b17 at l17
    have sW8 : W7.heap.size ≤ W8.heap.size := I.below.size
    replace OA := I.keep OA (by repeat' (first | exact trivial | refine Off.v ?_ | refine Off.k ?_ | refine Off.b ?_ | refine Off.p ?_ | refine Off.s ?_ ?_ | omega))
    replace OB := I.keep OB (by repeat' (first | exact trivial | refine Off.v ?_ | refine Off.k ?_ | refine Off.b ?_ | refine Off.p ?_ | refine Off.s ?_ ?_ | omega))
    replace OC := I.keep OC (by repeat' (first | exact trivial | refine Off.v ?_ | refine Off.k ?_ | refine Off.b ?_ | refine Off.p ?_ | refine Off.s ?_ ?_ | omega))
    replace o11 := I.keep o11 (by repeat' (first | exact trivial | refine Off.v ?_ | refine Off.k ?_ | refine Off.b ?_ | refine Off.p ?_ | refine Off.s ?_ ?_ | omega))
    have hW8 : Below w.heap.size w W8 := then_ hW7 I.below hW7.size
    clear e17
    clear I
    simp only [List.foldl_cons, List.foldl_nil, List.setIfInBounds_toArray, List.set_cons_zero, List.set_cons_succ]
    go_upto_region 11 with fail
    refine region_memo_f (B := W8.heap.size) (L := .val (.agg #[.int .u64 (L0 z0), .int .u64 (L1 z0), .int .u64 (L2 z0), .int .u64 (L3 z0)]) :: .val (.agg #[.int .u64 (L0 s), .int .u64 (L1 s), .int .u64 (L2 s), .int .u64 (L3 s)]) :: .val (.tuple #[(.agg #[.int .u64 (L0 l), .int .u64 (L1 l), .int .u64 (L2 l), .int .u64 (L3 l)]), (.int .i64 el)]) :: .val (.tuple #[(.agg #[.int .u64 (L0 l), .int .u64 (L1 l), .int .u64 (L2 l), .int .u64 (L3 l)]), (.int .i64 el)]) :: .val (.agg #[.int .u64 (L0 l), .int .u64 (L1 l), .int .u64 (L2 l), .int .u64 (L3 l)]) :: .val (.int .i64 el) :: .blk 24 4 :: .put 18 24 #[.int .u64 (L0 l), .int .u64 (L1 l), .int .u64 (L2 l), .int .u64 (L3 l)] :: .val (.int .i64 el) :: []) (by kernel_rfl) (Nat.le_refl _) ((by exact trivial))
      ⟨fun a w R => ld24 (R.slot 3 rfl) (R.keep OA (by repeat' (first | exact trivial | refine Off.v ?_ | refine Off.k ?_ | refine Off.b ?_ | refine Off.p ?_ | refine Off.s ?_ ?_ | omega))), fun a w R => ld24 (R.slot 17 rfl) (R.keep o17 (by repeat' (first | exact trivial | refine Off.v ?_ | refine Off.k ?_ | refine Off.b ?_ | refine Off.p ?_ | refine Off.s ?_ ?_ | omega))), fun a w R => cl2 en_Mul (R.val 0 rfl rfl rfl (by kernel_rfl)) (R.val 1 rfl rfl rfl (by kernel_rfl)) (F7.out _), fun a w R => mv (R.val 2 rfl rfl rfl (by kernel_rfl)), fun a w R => ex0 (R.val 3 rfl rfl rfl (by kernel_rfl)), fun a w R => ex1 (R.val 3 rfl rfl rfl (by kernel_rfl)), fun a w R => al24, fun a w R => sb24 (R.dep 6 rfl (by kernel_rfl)) (R.val 4 rfl rfl rfl (by kernel_rfl)), fun a w R => asg (R.val 5 rfl rfl rfl (by kernel_rfl)), trivial⟩ (fun a1 W9 I => ?_)
    obtain ⟨b18, e18, l18, o18⟩ := I.put 7 rfl rfl
    rw [I.act [(93, (.agg #[.int .u64 (L0 z0), .int .u64 (L1 z0), .int .u64 (L2 z0), .int .u64 (L3 z0)])), (94, (.agg #[.int .u64 (L0 s), .int .u64 (L1 s), .int .u64 (L2 s), .int .u64 (L3 s)])), (95, (.tuple #[(.agg #[.int .u64 (L0 l), .int .u64 (L1 l), .int .u64 (L2 l), .int .u64 (L3 l)]), (.int .i64 el)])), (92, (.tuple #[(.agg #[.int .u64 (L0 l), .int .u64 (L1 l), .int .u64 (L2 l), .int .u64 (L3 l)]), (.int .i64 el)])), (96, (.agg #[.int .u64 (L0 l), .int .u64 (L1 l), .int .u64 (L2 l), .int .u64 (L3 l)])), (97, (.int .i64 el)), (18, .pointer (some ⟨b18, 0, none⟩)), (10, (.int .i64 el))]
      ⟨I.val 0 rfl rfl rfl, I.val 1 rfl rfl rfl, I.val 2 rfl rfl rfl, I.val 3 rfl rfl rfl, I.val 4 rfl rfl rfl, I.val 5 rfl rfl rfl, e18, I.val 8 rfl rfl rfl, trivial⟩ rfl]
    change W8.heap.size ≤ b18 at l18
    have sW9 : W8.heap.size ≤ W9.heap.size := I.below.size
    replace OA := I.keep OA (by repeat' (first | exact trivial | refine Off.v ?_ | refine Off.k ?_ | refine Off.b ?_ | refine Off.p ?_ | refine Off.s ?_ ?_ | omega))
    replace OB := I.keep OB (by repeat' (first | exact trivial | refine Off.v ?_ | refine Off.k ?_ | refine Off.b ?_ | refine Off.p ?_ | refine Off.s ?_ ?_ | omega))
    replace OC := I.keep OC (by repeat' (first | exact trivial | refine Off.v ?_ | refine Off.k ?_ | refine Off.b ?_ | refine Off.p ?_ | refine Off.s ?_ ?_ | omega))
    replace o11 := I.keep o11 (by repeat' (first | exact trivial | refine Off.v ?_ | refine Off.k ?_ | refine Off.b ?_ | refine Off.p ?_ | refine Off.s ?_ ?_ | omega))
    replace o17 := I.keep o17 (by repeat' (first | exact trivial | refine Off.v ?_ | refine Off.k ?_ | refine Off.b ?_ | refine Off.p ?_ | refine Off.s ?_ ?_ | omega))
    have hW9 : Below w.heap.size w W9 := then_ hW8 I.below hW8.size
    clear e18
    clear I
    simp only [List.foldl_cons, List.foldl_nil, List.setIfInBounds_toArray, List.set_cons_zero, List.set_cons_succ]
    go_upto_region 12 with fail
    refine region_memo_f (B := W9.heap.size) (L := .val (.agg #[.int .u64 (L0 z0), .int .u64 (L1 z0), .int .u64 (L2 z0), .int .u64 (L3 z0)]) :: .val (.agg #[.int .u64 (L0 z2), .int .u64 (L1 z2), .int .u64 (L2 z2), .int .u64 (L3 z2)]) :: .val (.tuple #[(.agg #[.int .u64 (L0 r), .int .u64 (L1 r), .int .u64 (L2 r), .int .u64 (L3 r)]), (.int .i64 er)]) :: .val (.tuple #[(.agg #[.int .u64 (L0 r), .int .u64 (L1 r), .int .u64 (L2 r), .int .u64 (L3 r)]), (.int .i64 er)]) :: .val (.agg #[.int .u64 (L0 r), .int .u64 (L1 r), .int .u64 (L2 r), .int .u64 (L3 r)]) :: .val (.int .i64 er) :: .blk 24 4 :: .put 19 24 #[.int .u64 (L0 r), .int .u64 (L1 r), .int .u64 (L2 r), .int .u64 (L3 r)] :: .val (.int .i64 er) :: []) (by kernel_rfl) (Nat.le_refl _) ((by exact trivial))
      ⟨fun a w R => ld24 (R.slot 3 rfl) (R.keep OA (by repeat' (first | exact trivial | refine Off.v ?_ | refine Off.k ?_ | refine Off.b ?_ | refine Off.p ?_ | refine Off.s ?_ ?_ | omega))), fun a w R => ld24 (R.slot 5 rfl) (R.keep OC (by repeat' (first | exact trivial | refine Off.v ?_ | refine Off.k ?_ | refine Off.b ?_ | refine Off.p ?_ | refine Off.s ?_ ?_ | omega))), fun a w R => cl2 en_Mul (R.val 0 rfl rfl rfl (by kernel_rfl)) (R.val 1 rfl rfl rfl (by kernel_rfl)) (F8.out _), fun a w R => mv (R.val 2 rfl rfl rfl (by kernel_rfl)), fun a w R => ex0 (R.val 3 rfl rfl rfl (by kernel_rfl)), fun a w R => ex1 (R.val 3 rfl rfl rfl (by kernel_rfl)), fun a w R => al24, fun a w R => sb24 (R.dep 6 rfl (by kernel_rfl)) (R.val 4 rfl rfl rfl (by kernel_rfl)), fun a w R => asg (R.val 5 rfl rfl rfl (by kernel_rfl)), trivial⟩ (fun a1 W10 I => ?_)
    obtain ⟨b19, e19, l19, o19⟩ := I.put 7 rfl rfl
    rw [I.act [(99, (.agg #[.int .u64 (L0 z0), .int .u64 (L1 z0), .int .u64 (L2 z0), .int .u64 (L3 z0)])), (100, (.agg #[.int .u64 (L0 z2), .int .u64 (L1 z2), .int .u64 (L2 z2), .int .u64 (L3 z2)])), (101, (.tuple #[(.agg #[.int .u64 (L0 r), .int .u64 (L1 r), .int .u64 (L2 r), .int .u64 (L3 r)]), (.int .i64 er)])), (98, (.tuple #[(.agg #[.int .u64 (L0 r), .int .u64 (L1 r), .int .u64 (L2 r), .int .u64 (L3 r)]), (.int .i64 er)])), (102, (.agg #[.int .u64 (L0 r), .int .u64 (L1 r), .int .u64 (L2 r), .int .u64 (L3 r)])), (103, (.int .i64 er)), (19, .pointer (some ⟨b19, 0, none⟩)), (20, (.int .i64 er))]
      ⟨I.val 0 rfl rfl rfl, I.val 1 rfl rfl rfl, I.val 2 rfl rfl rfl, I.val 3 rfl rfl rfl, I.val 4 rfl rfl rfl, I.val 5 rfl rfl rfl, e19, I.val 8 rfl rfl rfl, trivial⟩ rfl]
    change W9.heap.size ≤ b19 at l19
    have sW10 : W9.heap.size ≤ W10.heap.size := I.below.size
    replace OA := I.keep OA (by repeat' (first | exact trivial | refine Off.v ?_ | refine Off.k ?_ | refine Off.b ?_ | refine Off.p ?_ | refine Off.s ?_ ?_ | omega))
    replace OB := I.keep OB (by repeat' (first | exact trivial | refine Off.v ?_ | refine Off.k ?_ | refine Off.b ?_ | refine Off.p ?_ | refine Off.s ?_ ?_ | omega))
    replace OC := I.keep OC (by repeat' (first | exact trivial | refine Off.v ?_ | refine Off.k ?_ | refine Off.b ?_ | refine Off.p ?_ | refine Off.s ?_ ?_ | omega))
    replace o11 := I.keep o11 (by repeat' (first | exact trivial | refine Off.v ?_ | refine Off.k ?_ | refine Off.b ?_ | refine Off.p ?_ | refine Off.s ?_ ?_ | omega))
    replace o17 := I.keep o17 (by repeat' (first | exact trivial | refine Off.v ?_ | refine Off.k ?_ | refine Off.b ?_ | refine Off.p ?_ | refine Off.s ?_ ?_ | omega))
    replace o18 := I.keep o18 (by repeat' (first | exact trivial | refine Off.v ?_ | refine Off.k ?_ | refine Off.b ?_ | refine Off.p ?_ | refine Off.s ?_ ?_ | omega))
    have hW10 : Below w.heap.size w W10 := then_ hW9 I.below hW9.size
    clear e19
    clear I
    simp only [List.foldl_cons, List.foldl_nil, List.setIfInBounds_toArray, List.set_cons_zero, List.set_cons_succ]
    go_upto_region 13 with fail
    refine region_memo_f (B := W10.heap.size) (L := .val (.agg #[.int .u64 (L0 q), .int .u64 (L1 q), .int .u64 (L2 q), .int .u64 (L3 q)]) :: .val (.agg #[.int .u64 (L0 r), .int .u64 (L1 r), .int .u64 (L2 r), .int .u64 (L3 r)]) :: .val (.tuple #[(.agg #[.int .u64 (L0 t), .int .u64 (L1 t), .int .u64 (L2 t), .int .u64 (L3 t)]), (.int .i64 et)]) :: .val (.tuple #[(.agg #[.int .u64 (L0 t), .int .u64 (L1 t), .int .u64 (L2 t), .int .u64 (L3 t)]), (.int .i64 et)]) :: .val (.agg #[.int .u64 (L0 t), .int .u64 (L1 t), .int .u64 (L2 t), .int .u64 (L3 t)]) :: .val (.int .i64 et) :: .blk 24 4 :: .put 21 24 #[.int .u64 (L0 t), .int .u64 (L1 t), .int .u64 (L2 t), .int .u64 (L3 t)] :: .val (.int .i64 et) :: []) (by kernel_rfl) (Nat.le_refl _) ((by exact trivial))
      ⟨fun a w R => ld24 (R.slot 11 rfl) (R.keep o11 (by repeat' (first | exact trivial | refine Off.v ?_ | refine Off.k ?_ | refine Off.b ?_ | refine Off.p ?_ | refine Off.s ?_ ?_ | omega))), fun a w R => ld24 (R.slot 19 rfl) (R.keep o19 (by repeat' (first | exact trivial | refine Off.v ?_ | refine Off.k ?_ | refine Off.b ?_ | refine Off.p ?_ | refine Off.s ?_ ?_ | omega))), fun a w R => cl2 en_Add (R.val 0 rfl rfl rfl (by kernel_rfl)) (R.val 1 rfl rfl rfl (by kernel_rfl)) (F9.out _), fun a w R => mv (R.val 2 rfl rfl rfl (by kernel_rfl)), fun a w R => ex0 (R.val 3 rfl rfl rfl (by kernel_rfl)), fun a w R => ex1 (R.val 3 rfl rfl rfl (by kernel_rfl)), fun a w R => al24, fun a w R => sb24 (R.dep 6 rfl (by kernel_rfl)) (R.val 4 rfl rfl rfl (by kernel_rfl)), fun a w R => asg (R.val 5 rfl rfl rfl (by kernel_rfl)), trivial⟩ (fun a1 W11 I => ?_)
    obtain ⟨b21, e21, l21, o21⟩ := I.put 7 rfl rfl
    rw [I.act [(105, (.agg #[.int .u64 (L0 q), .int .u64 (L1 q), .int .u64 (L2 q), .int .u64 (L3 q)])), (106, (.agg #[.int .u64 (L0 r), .int .u64 (L1 r), .int .u64 (L2 r), .int .u64 (L3 r)])), (107, (.tuple #[(.agg #[.int .u64 (L0 t), .int .u64 (L1 t), .int .u64 (L2 t), .int .u64 (L3 t)]), (.int .i64 et)])), (104, (.tuple #[(.agg #[.int .u64 (L0 t), .int .u64 (L1 t), .int .u64 (L2 t), .int .u64 (L3 t)]), (.int .i64 et)])), (108, (.agg #[.int .u64 (L0 t), .int .u64 (L1 t), .int .u64 (L2 t), .int .u64 (L3 t)])), (109, (.int .i64 et)), (21, .pointer (some ⟨b21, 0, none⟩)), (22, (.int .i64 et))]
      ⟨I.val 0 rfl rfl rfl, I.val 1 rfl rfl rfl, I.val 2 rfl rfl rfl, I.val 3 rfl rfl rfl, I.val 4 rfl rfl rfl, I.val 5 rfl rfl rfl, e21, I.val 8 rfl rfl rfl, trivial⟩ rfl]
    change W10.heap.size ≤ b21 at l21
    have sW11 : W10.heap.size ≤ W11.heap.size := I.below.size
    replace OA := I.keep OA (by repeat' (first | exact trivial | refine Off.v ?_ | refine Off.k ?_ | refine Off.b ?_ | refine Off.p ?_ | refine Off.s ?_ ?_ | omega))
    replace OB := I.keep OB (by repeat' (first | exact trivial | refine Off.v ?_ | refine Off.k ?_ | refine Off.b ?_ | refine Off.p ?_ | refine Off.s ?_ ?_ | omega))
    replace OC := I.keep OC (by repeat' (first | exact trivial | refine Off.v ?_ | refine Off.k ?_ | refine Off.b ?_ | refine Off.p ?_ | refine Off.s ?_ ?_ | omega))
    replace o11 := I.keep o11 (by repeat' (first | exact trivial | refine Off.v ?_ | refine Off.k ?_ | refine Off.b ?_ | refine Off.p ?_ | refine Off.s ?_ ?_ | omega))
    replace o17 := I.keep o17 (by repeat' (first | exact trivial | refine Off.v ?_ | refine Off.k ?_ | refine Off.b ?_ | refine Off.p ?_ | refine Off.s ?_ ?_ | omega))
    replace o18 := I.keep o18 (by repeat' (first | exact trivial | refine Off.v ?_ | refine Off.k ?_ | refine Off.b ?_ | refine Off.p ?_ | refine Off.s ?_ ?_ | omega))
    replace o19 := I.keep o19 (by repeat' (first | exact trivial | refine Off.v ?_ | refine Off.k ?_ | refine Off.b ?_ | refine Off.p ?_ | refine Off.s ?_ ?_ | omega))
    have hW11 : Below w.heap.size w W11 := then_ hW10 I.below hW10.size
    clear e21
    clear I
    simp only [List.foldl_cons, List.foldl_nil, List.setIfInBounds_toArray, List.set_cons_zero, List.set_cons_succ]
    clear F6 F7 F8 F9
    go_upto_region 14 with fail
    by_cases h0 : es = 0
    · subst h0
      have n0 : (!((0 : Int) == 0)) = false := rfl
      by_cases h1 : el = 0
      · subst h1
        have n1 : (!((0 : Int) == 0)) = false := rfl
        by_cases h2 : eq = 0
        · subst h2
          have n2 : (!((0 : Int) == 0)) = false := rfl
          by_cases h3 : er = 0
          · subst h3
            have n3 : (!((0 : Int) == 0)) = false := rfl
            by_cases h4 : et = 0
            · subst h4
              have n4 : (!((0 : Int) == 0)) = false := rfl
              have hlt := HT.out rfl rfl rfl rfl rfl
              subst hlt
              refine region_memo_f (B := W11.heap.size) (L := .val (.int .i64 0) :: .val (.bool false) :: .val (.bool false) :: .val (.int .i64 0) :: .val (.bool false) :: .val (.bool false) :: .val (.bool false) :: .val (.int .i64 0) :: .val (.bool false) :: .val (.bool false) :: .val (.bool false) :: .val (.int .i64 0) :: .val (.bool false) :: .val (.bool false) :: .val (.bool false) :: .val (.int .i64 0) :: .val (.bool false) :: .val (.bool false) :: []) (by kernel_rfl) (Nat.le_refl _) ((by exact trivial))
                ⟨fun a w R => mv (R.slot 8 rfl), fun a w R => nqk (R.val 0 rfl rfl rfl (by kernel_rfl)) (Tryd.underlying25) n0, fun a w R => mv (R.val 1 rfl rfl rfl (by kernel_rfl)), fun a w R => mv (R.slot 10 rfl), fun a w R => nqk (R.val 3 rfl rfl rfl (by kernel_rfl)) (Tryd.underlying25) n1, fun a w R => pickn (R.val 2 rfl rfl rfl (by kernel_rfl)) (R.val 4 rfl rfl rfl (by kernel_rfl)), fun a w R => mv (R.val 5 rfl rfl rfl (by kernel_rfl)), fun a w R => mv (R.slot 12 rfl), fun a w R => nqk (R.val 7 rfl rfl rfl (by kernel_rfl)) (Tryd.underlying25) n2, fun a w R => pickn (R.val 6 rfl rfl rfl (by kernel_rfl)) (R.val 8 rfl rfl rfl (by kernel_rfl)), fun a w R => mv (R.val 9 rfl rfl rfl (by kernel_rfl)), fun a w R => mv (R.slot 20 rfl), fun a w R => nqk (R.val 11 rfl rfl rfl (by kernel_rfl)) (Tryd.underlying25) n3, fun a w R => pickn (R.val 10 rfl rfl rfl (by kernel_rfl)) (R.val 12 rfl rfl rfl (by kernel_rfl)), fun a w R => mv (R.val 13 rfl rfl rfl (by kernel_rfl)), fun a w R => mv (R.slot 22 rfl), fun a w R => nqk (R.val 15 rfl rfl rfl (by kernel_rfl)) (Tryd.underlying25) n4, fun a w R => pickn (R.val 14 rfl rfl rfl (by kernel_rfl)) (R.val 16 rfl rfl rfl (by kernel_rfl)), trivial⟩ (fun a1 W12 I => ?_)
              rw [I.act [(110, (.int .i64 0)), (111, (.bool false)), (112, (.bool false)), (113, (.int .i64 0)), (114, (.bool false)), (115, (.bool false)), (116, (.bool false)), (117, (.int .i64 0)), (118, (.bool false)), (119, (.bool false)), (120, (.bool false)), (121, (.int .i64 0)), (122, (.bool false)), (123, (.bool false)), (124, (.bool false)), (125, (.int .i64 0)), (126, (.bool false)), (127, (.bool false))]
                ⟨I.val 0 rfl rfl rfl, I.val 1 rfl rfl rfl, I.val 2 rfl rfl rfl, I.val 3 rfl rfl rfl, I.val 4 rfl rfl rfl, I.val 5 rfl rfl rfl, I.val 6 rfl rfl rfl, I.val 7 rfl rfl rfl, I.val 8 rfl rfl rfl, I.val 9 rfl rfl rfl, I.val 10 rfl rfl rfl, I.val 11 rfl rfl rfl, I.val 12 rfl rfl rfl, I.val 13 rfl rfl rfl, I.val 14 rfl rfl rfl, I.val 15 rfl rfl rfl, I.val 16 rfl rfl rfl, I.val 17 rfl rfl rfl, trivial⟩ rfl]
              have sW12 : W11.heap.size ≤ W12.heap.size := I.below.size
              replace o18 := I.keep o18 (by repeat' (first | exact trivial | refine Off.v ?_ | refine Off.k ?_ | refine Off.b ?_ | refine Off.p ?_ | refine Off.s ?_ ?_ | omega))
              replace o21 := I.keep o21 (by repeat' (first | exact trivial | refine Off.v ?_ | refine Off.k ?_ | refine Off.b ?_ | refine Off.p ?_ | refine Off.s ?_ ?_ | omega))
              have hW12 : Below w.heap.size w W12 := then_ hW11 I.below hW11.size
              clear I
              simp only [List.foldl_cons, List.foldl_nil, List.setIfInBounds_toArray, List.set_cons_zero, List.set_cons_succ]
              go_upto_region 16 with fail
              refine region_memo_f (B := W12.heap.size) (L := .val (.agg #[.int .u64 (L0 l), .int .u64 (L1 l), .int .u64 (L2 l), .int .u64 (L3 l)]) :: .val (.agg #[.int .u64 (L0 l), .int .u64 (L1 l), .int .u64 (L2 l), .int .u64 (L3 l)]) :: .val (.bool true) :: .val (.bool true) :: []) (by kernel_rfl) (Nat.le_refl _) ((by exact trivial))
                ⟨fun a w R => ld24 (R.slot 18 rfl) (R.keep o18 (by repeat' (first | exact trivial | refine Off.v ?_ | refine Off.k ?_ | refine Off.b ?_ | refine Off.p ?_ | refine Off.s ?_ ?_ | omega))), fun a w R => ld24 (R.slot 21 rfl) (R.keep o21 (by repeat' (first | exact trivial | refine Off.v ?_ | refine Off.k ?_ | refine Off.b ?_ | refine Off.p ?_ | refine Off.s ?_ ?_ | omega))), fun a w R => eqw (R.val 0 rfl rfl rfl (by kernel_rfl)) (R.val 1 rfl rfl rfl (by kernel_rfl)) (eq_i l), fun a w R => asg (R.val 2 rfl rfl rfl (by kernel_rfl)), trivial⟩ (fun a1 W13 I => ?_)
              rw [I.act [(128, (.agg #[.int .u64 (L0 l), .int .u64 (L1 l), .int .u64 (L2 l), .int .u64 (L3 l)])), (129, (.agg #[.int .u64 (L0 l), .int .u64 (L1 l), .int .u64 (L2 l), .int .u64 (L3 l)])), (130, (.bool true)), (6, (.bool true))]
                ⟨I.val 0 rfl rfl rfl, I.val 1 rfl rfl rfl, I.val 2 rfl rfl rfl, I.val 3 rfl rfl rfl, trivial⟩ rfl]
              have sW13 : W12.heap.size ≤ W13.heap.size := I.below.size
              replace o18 := I.keep o18 (by repeat' (first | exact trivial | refine Off.v ?_ | refine Off.k ?_ | refine Off.b ?_ | refine Off.p ?_ | refine Off.s ?_ ?_ | omega))
              replace o21 := I.keep o21 (by repeat' (first | exact trivial | refine Off.v ?_ | refine Off.k ?_ | refine Off.b ?_ | refine Off.p ?_ | refine Off.s ?_ ?_ | omega))
              have hW13 : Below w.heap.size w W13 := then_ hW12 I.below hW12.size
              clear I
              simp only [List.foldl_cons, List.foldl_nil, List.setIfInBounds_toArray, List.set_cons_zero, List.set_cons_succ]
              go_wp2
              go_ret
              exact ⟨rfl, hW13⟩
            · have n4 : (!(et == 0)) = true := by simpa using h4
              refine region_memo_f (B := W11.heap.size) (L := .val (.int .i64 0) :: .val (.bool false) :: .val (.bool false) :: .val (.int .i64 0) :: .val (.bool false) :: .val (.bool false) :: .val (.bool false) :: .val (.int .i64 0) :: .val (.bool false) :: .val (.bool false) :: .val (.bool false) :: .val (.int .i64 0) :: .val (.bool false) :: .val (.bool false) :: .val (.bool false) :: .val (.int .i64 et) :: .val (.bool true) :: .val (.bool true) :: []) (by kernel_rfl) (Nat.le_refl _) ((by exact trivial))
                ⟨fun a w R => mv (R.slot 8 rfl), fun a w R => nqk (R.val 0 rfl rfl rfl (by kernel_rfl)) (Tryd.underlying25) n0, fun a w R => mv (R.val 1 rfl rfl rfl (by kernel_rfl)), fun a w R => mv (R.slot 10 rfl), fun a w R => nqk (R.val 3 rfl rfl rfl (by kernel_rfl)) (Tryd.underlying25) n1, fun a w R => pickn (R.val 2 rfl rfl rfl (by kernel_rfl)) (R.val 4 rfl rfl rfl (by kernel_rfl)), fun a w R => mv (R.val 5 rfl rfl rfl (by kernel_rfl)), fun a w R => mv (R.slot 12 rfl), fun a w R => nqk (R.val 7 rfl rfl rfl (by kernel_rfl)) (Tryd.underlying25) n2, fun a w R => pickn (R.val 6 rfl rfl rfl (by kernel_rfl)) (R.val 8 rfl rfl rfl (by kernel_rfl)), fun a w R => mv (R.val 9 rfl rfl rfl (by kernel_rfl)), fun a w R => mv (R.slot 20 rfl), fun a w R => nqk (R.val 11 rfl rfl rfl (by kernel_rfl)) (Tryd.underlying25) n3, fun a w R => pickn (R.val 10 rfl rfl rfl (by kernel_rfl)) (R.val 12 rfl rfl rfl (by kernel_rfl)), fun a w R => mv (R.val 13 rfl rfl rfl (by kernel_rfl)), fun a w R => mv (R.slot 22 rfl), fun a w R => nqk (R.val 15 rfl rfl rfl (by kernel_rfl)) (Tryd.underlying25) n4, fun a w R => pickn (R.val 14 rfl rfl rfl (by kernel_rfl)) (R.val 16 rfl rfl rfl (by kernel_rfl)), trivial⟩ (fun a1 W12 I => ?_)
              rw [I.act [(110, (.int .i64 0)), (111, (.bool false)), (112, (.bool false)), (113, (.int .i64 0)), (114, (.bool false)), (115, (.bool false)), (116, (.bool false)), (117, (.int .i64 0)), (118, (.bool false)), (119, (.bool false)), (120, (.bool false)), (121, (.int .i64 0)), (122, (.bool false)), (123, (.bool false)), (124, (.bool false)), (125, (.int .i64 et)), (126, (.bool true)), (127, (.bool true))]
                ⟨I.val 0 rfl rfl rfl, I.val 1 rfl rfl rfl, I.val 2 rfl rfl rfl, I.val 3 rfl rfl rfl, I.val 4 rfl rfl rfl, I.val 5 rfl rfl rfl, I.val 6 rfl rfl rfl, I.val 7 rfl rfl rfl, I.val 8 rfl rfl rfl, I.val 9 rfl rfl rfl, I.val 10 rfl rfl rfl, I.val 11 rfl rfl rfl, I.val 12 rfl rfl rfl, I.val 13 rfl rfl rfl, I.val 14 rfl rfl rfl, I.val 15 rfl rfl rfl, I.val 16 rfl rfl rfl, I.val 17 rfl rfl rfl, trivial⟩ rfl]
              have sW12 : W11.heap.size ≤ W12.heap.size := I.below.size
              have hW12 : Below w.heap.size w W12 := then_ hW11 I.below hW11.size
              clear I
              simp only [List.foldl_cons, List.foldl_nil, List.setIfInBounds_toArray, List.set_cons_zero, List.set_cons_succ]
              go_wp2
              go_ret
              exact ⟨rfl, hW12⟩
          · have n3 : (!(er == 0)) = true := by simpa using h3
            refine region_memo_f (B := W11.heap.size) (L := .val (.int .i64 0) :: .val (.bool false) :: .val (.bool false) :: .val (.int .i64 0) :: .val (.bool false) :: .val (.bool false) :: .val (.bool false) :: .val (.int .i64 0) :: .val (.bool false) :: .val (.bool false) :: .val (.bool false) :: .val (.int .i64 er) :: .val (.bool true) :: .val (.bool true) :: .val (.bool true) :: .skip :: .skip :: .val (.bool true) :: []) (by kernel_rfl) (Nat.le_refl _) ((by exact trivial))
              ⟨fun a w R => mv (R.slot 8 rfl), fun a w R => nqk (R.val 0 rfl rfl rfl (by kernel_rfl)) (Tryd.underlying25) n0, fun a w R => mv (R.val 1 rfl rfl rfl (by kernel_rfl)), fun a w R => mv (R.slot 10 rfl), fun a w R => nqk (R.val 3 rfl rfl rfl (by kernel_rfl)) (Tryd.underlying25) n1, fun a w R => pickn (R.val 2 rfl rfl rfl (by kernel_rfl)) (R.val 4 rfl rfl rfl (by kernel_rfl)), fun a w R => mv (R.val 5 rfl rfl rfl (by kernel_rfl)), fun a w R => mv (R.slot 12 rfl), fun a w R => nqk (R.val 7 rfl rfl rfl (by kernel_rfl)) (Tryd.underlying25) n2, fun a w R => pickn (R.val 6 rfl rfl rfl (by kernel_rfl)) (R.val 8 rfl rfl rfl (by kernel_rfl)), fun a w R => mv (R.val 9 rfl rfl rfl (by kernel_rfl)), fun a w R => mv (R.slot 20 rfl), fun a w R => nqk (R.val 11 rfl rfl rfl (by kernel_rfl)) (Tryd.underlying25) n3, fun a w R => pickn (R.val 10 rfl rfl rfl (by kernel_rfl)) (R.val 12 rfl rfl rfl (by kernel_rfl)), fun a w R => mv (R.val 13 rfl rfl rfl (by kernel_rfl)), fun a w R => True.intro, fun a w R => True.intro, fun a w R => picko (R.val 14 rfl rfl rfl (by kernel_rfl)) (R.goneS 16 rfl rfl rfl (by kernel_rfl)), trivial⟩ (fun a1 W12 I => ?_)
            rw [I.act [(110, (.int .i64 0)), (111, (.bool false)), (112, (.bool false)), (113, (.int .i64 0)), (114, (.bool false)), (115, (.bool false)), (116, (.bool false)), (117, (.int .i64 0)), (118, (.bool false)), (119, (.bool false)), (120, (.bool false)), (121, (.int .i64 er)), (122, (.bool true)), (123, (.bool true)), (124, (.bool true)), (125, undef), (126, undef), (127, (.bool true))]
              ⟨I.val 0 rfl rfl rfl, I.val 1 rfl rfl rfl, I.val 2 rfl rfl rfl, I.val 3 rfl rfl rfl, I.val 4 rfl rfl rfl, I.val 5 rfl rfl rfl, I.val 6 rfl rfl rfl, I.val 7 rfl rfl rfl, I.val 8 rfl rfl rfl, I.val 9 rfl rfl rfl, I.val 10 rfl rfl rfl, I.val 11 rfl rfl rfl, I.val 12 rfl rfl rfl, I.val 13 rfl rfl rfl, I.val 14 rfl rfl rfl, I.gone 15 rfl rfl rfl, I.gone 16 rfl rfl rfl, I.val 17 rfl rfl rfl, trivial⟩ rfl]
            have sW12 : W11.heap.size ≤ W12.heap.size := I.below.size
            have hW12 : Below w.heap.size w W12 := then_ hW11 I.below hW11.size
            clear I
            simp only [List.foldl_cons, List.foldl_nil, List.setIfInBounds_toArray, List.set_cons_zero, List.set_cons_succ]
            go_wp2
            go_ret
            exact ⟨rfl, hW12⟩
        · have n2 : (!(eq == 0)) = true := by simpa using h2
          refine region_memo_f (B := W11.heap.size) (L := .val (.int .i64 0) :: .val (.bool false) :: .val (.bool false) :: .val (.int .i64 0) :: .val (.bool false) :: .val (.bool false) :: .val (.bool false) :: .val (.int .i64 eq) :: .val (.bool true) :: .val (.bool true) :: .val (.bool true) :: .skip :: .skip :: .val (.bool true) :: .val (.bool true) :: .skip :: .skip :: .val (.bool true) :: []) (by kernel_rfl) (Nat.le_refl _) ((by exact trivial))
            ⟨fun a w R => mv (R.slot 8 rfl), fun a w R => nqk (R.val 0 rfl rfl rfl (by kernel_rfl)) (Tryd.underlying25) n0, fun a w R => mv (R.val 1 rfl rfl rfl (by kernel_rfl)), fun a w R => mv (R.slot 10 rfl), fun a w R => nqk (R.val 3 rfl rfl rfl (by kernel_rfl)) (Tryd.underlying25) n1, fun a w R => pickn (R.val 2 rfl rfl rfl (by kernel_rfl)) (R.val 4 rfl rfl rfl (by kernel_rfl)), fun a w R => mv (R.val 5 rfl rfl rfl (by kernel_rfl)), fun a w R => mv (R.slot 12 rfl), fun a w R => nqk (R.val 7 rfl rfl rfl (by kernel_rfl)) (Tryd.underlying25) n2, fun a w R => pickn (R.val 6 rfl rfl rfl (by kernel_rfl)) (R.val 8 rfl rfl rfl (by kernel_rfl)), fun a w R => mv (R.val 9 rfl rfl rfl (by kernel_rfl)), fun a w R => True.intro, fun a w R => True.intro, fun a w R => picko (R.val 10 rfl rfl rfl (by kernel_rfl)) (R.goneS 12 rfl rfl rfl (by kernel_rfl)), fun a w R => mv (R.val 13 rfl rfl rfl (by kernel_rfl)), fun a w R => True.intro, fun a w R => True.intro, fun a w R => picko (R.val 14 rfl rfl rfl (by kernel_rfl)) (R.goneS 16 rfl rfl rfl (by kernel_rfl)), trivial⟩ (fun a1 W12 I => ?_)
          rw [I.act [(110, (.int .i64 0)), (111, (.bool false)), (112, (.bool false)), (113, (.int .i64 0)), (114, (.bool false)), (115, (.bool false)), (116, (.bool false)), (117, (.int .i64 eq)), (118, (.bool true)), (119, (.bool true)), (120, (.bool true)), (121, undef), (122, undef), (123, (.bool true)), (124, (.bool true)), (125, undef), (126, undef), (127, (.bool true))]
            ⟨I.val 0 rfl rfl rfl, I.val 1 rfl rfl rfl, I.val 2 rfl rfl rfl, I.val 3 rfl rfl rfl, I.val 4 rfl rfl rfl, I.val 5 rfl rfl rfl, I.val 6 rfl rfl rfl, I.val 7 rfl rfl rfl, I.val 8 rfl rfl rfl, I.val 9 rfl rfl rfl, I.val 10 rfl rfl rfl, I.gone 11 rfl rfl rfl, I.gone 12 rfl rfl rfl, I.val 13 rfl rfl rfl, I.val 14 rfl rfl rfl, I.gone 15 rfl rfl rfl, I.gone 16 rfl rfl rfl, I.val 17 rfl rfl rfl, trivial⟩ rfl]
          have sW12 : W11.heap.size ≤ W12.heap.size := I.below.size
          have hW12 : Below w.heap.size w W12 := then_ hW11 I.below hW11.size
          clear I
          simp only [List.foldl_cons, List.foldl_nil, List.setIfInBounds_toArray, List.set_cons_zero, List.set_cons_succ]
          go_wp2
          go_ret
          exact ⟨rfl, hW12⟩
      · have n1 : (!(el == 0)) = true := by simpa using h1
        refine region_memo_f (B := W11.heap.size) (L := .val (.int .i64 0) :: .val (.bool false) :: .val (.bool false) :: .val (.int .i64 el) :: .val (.bool true) :: .val (.bool true) :: .val (.bool true) :: .skip :: .skip :: .val (.bool true) :: .val (.bool true) :: .skip :: .skip :: .val (.bool true) :: .val (.bool true) :: .skip :: .skip :: .val (.bool true) :: []) (by kernel_rfl) (Nat.le_refl _) ((by exact trivial))
          ⟨fun a w R => mv (R.slot 8 rfl), fun a w R => nqk (R.val 0 rfl rfl rfl (by kernel_rfl)) (Tryd.underlying25) n0, fun a w R => mv (R.val 1 rfl rfl rfl (by kernel_rfl)), fun a w R => mv (R.slot 10 rfl), fun a w R => nqk (R.val 3 rfl rfl rfl (by kernel_rfl)) (Tryd.underlying25) n1, fun a w R => pickn (R.val 2 rfl rfl rfl (by kernel_rfl)) (R.val 4 rfl rfl rfl (by kernel_rfl)), fun a w R => mv (R.val 5 rfl rfl rfl (by kernel_rfl)), fun a w R => True.intro, fun a w R => True.intro, fun a w R => picko (R.val 6 rfl rfl rfl (by kernel_rfl)) (R.goneS 8 rfl rfl rfl (by kernel_rfl)), fun a w R => mv (R.val 9 rfl rfl rfl (by kernel_rfl)), fun a w R => True.intro, fun a w R => True.intro, fun a w R => picko (R.val 10 rfl rfl rfl (by kernel_rfl)) (R.goneS 12 rfl rfl rfl (by kernel_rfl)), fun a w R => mv (R.val 13 rfl rfl rfl (by kernel_rfl)), fun a w R => True.intro, fun a w R => True.intro, fun a w R => picko (R.val 14 rfl rfl rfl (by kernel_rfl)) (R.goneS 16 rfl rfl rfl (by kernel_rfl)), trivial⟩ (fun a1 W12 I => ?_)
        rw [I.act [(110, (.int .i64 0)), (111, (.bool false)), (112, (.bool false)), (113, (.int .i64 el)), (114, (.bool true)), (115, (.bool true)), (116, (.bool true)), (117, undef), (118, undef), (119, (.bool true)), (120, (.bool true)), (121, undef), (122, undef), (123, (.bool true)), (124, (.bool true)), (125, undef), (126, undef), (127, (.bool true))]
          ⟨I.val 0 rfl rfl rfl, I.val 1 rfl rfl rfl, I.val 2 rfl rfl rfl, I.val 3 rfl rfl rfl, I.val 4 rfl rfl rfl, I.val 5 rfl rfl rfl, I.val 6 rfl rfl rfl, I.gone 7 rfl rfl rfl, I.gone 8 rfl rfl rfl, I.val 9 rfl rfl rfl, I.val 10 rfl rfl rfl, I.gone 11 rfl rfl rfl, I.gone 12 rfl rfl rfl, I.val 13 rfl rfl rfl, I.val 14 rfl rfl rfl, I.gone 15 rfl rfl rfl, I.gone 16 rfl rfl rfl, I.val 17 rfl rfl rfl, trivial⟩ rfl]
        have sW12 : W11.heap.size ≤ W12.heap.size := I.below.size
        have hW12 : Below w.heap.size w W12 := then_ hW11 I.below hW11.size
        clear I
        simp only [List.foldl_cons, List.foldl_nil, List.setIfInBounds_toArray, List.set_cons_zero, List.set_cons_succ]
        go_wp2
        go_ret
        exact ⟨rfl, hW12⟩
    · have n0 : (!(es == 0)) = true := by simpa using h0
      refine region_memo_f (B := W11.heap.size) (L := .val (.int .i64 es) :: .val (.bool true) :: .val (.bool true) :: .skip :: .skip :: .val (.bool true) :: .val (.bool true) :: .skip :: .skip :: .val (.bool true) :: .val (.bool true) :: .skip :: .skip :: .val (.bool true) :: .val (.bool true) :: .skip :: .skip :: .val (.bool true) :: []) (by kernel_rfl) (Nat.le_refl _) ((by exact trivial))
        ⟨fun a w R => mv (R.slot 8 rfl), fun a w R => nqk (R.val 0 rfl rfl rfl (by kernel_rfl)) (Tryd.underlying25) n0, fun a w R => mv (R.val 1 rfl rfl rfl (by kernel_rfl)), fun a w R => True.intro, fun a w R => True.intro, fun a w R => picko (R.val 2 rfl rfl rfl (by kernel_rfl)) (R.goneS 4 rfl rfl rfl (by kernel_rfl)), fun a w R => mv (R.val 5 rfl rfl rfl (by kernel_rfl)), fun a w R => True.intro, fun a w R => True.intro, fun a w R => picko (R.val 6 rfl rfl rfl (by kernel_rfl)) (R.goneS 8 rfl rfl rfl (by kernel_rfl)), fun a w R => mv (R.val 9 rfl rfl rfl (by kernel_rfl)), fun a w R => True.intro, fun a w R => True.intro, fun a w R => picko (R.val 10 rfl rfl rfl (by kernel_rfl)) (R.goneS 12 rfl rfl rfl (by kernel_rfl)), fun a w R => mv (R.val 13 rfl rfl rfl (by kernel_rfl)), fun a w R => True.intro, fun a w R => True.intro, fun a w R => picko (R.val 14 rfl rfl rfl (by kernel_rfl)) (R.goneS 16 rfl rfl rfl (by kernel_rfl)), trivial⟩ (fun a1 W12 I => ?_)
      rw [I.act [(110, (.int .i64 es)), (111, (.bool true)), (112, (.bool true)), (113, undef), (114, undef), (115, (.bool true)), (116, (.bool true)), (117, undef), (118, undef), (119, (.bool true)), (120, (.bool true)), (121, undef), (122, undef), (123, (.bool true)), (124, (.bool true)), (125, undef), (126, undef), (127, (.bool true))]
        ⟨I.val 0 rfl rfl rfl, I.val 1 rfl rfl rfl, I.val 2 rfl rfl rfl, I.gone 3 rfl rfl rfl, I.gone 4 rfl rfl rfl, I.val 5 rfl rfl rfl, I.val 6 rfl rfl rfl, I.gone 7 rfl rfl rfl, I.gone 8 rfl rfl rfl, I.val 9 rfl rfl rfl, I.val 10 rfl rfl rfl, I.gone 11 rfl rfl rfl, I.gone 12 rfl rfl rfl, I.val 13 rfl rfl rfl, I.val 14 rfl rfl rfl, I.gone 15 rfl rfl rfl, I.gone 16 rfl rfl rfl, I.val 17 rfl rfl rfl, trivial⟩ rfl]
      have sW12 : W11.heap.size ≤ W12.heap.size := I.below.size
      have hW12 : Below w.heap.size w W12 := then_ hW11 I.below hW11.size
      clear I
      simp only [List.foldl_cons, List.foldl_nil, List.setIfInBounds_toArray, List.set_cons_zero, List.set_cons_succ]
      go_wp2
      go_ret
      exact ⟨rfl, hW12⟩

set_option maxRecDepth 100000 in
theorem lifted (os : Os) (started : os.Started) (H : Type) (enc : TypeId × Value → H) :
    ReturnsInHanded {} Tryd.checked os 3 .any (fun w args => (Rows.wideRingsSpec.pre enc Tryd.prog Tryd.f3 [] false w args ∧ laidMetH Tryd.prog lay3 w) ∧ sizedMet enc Tryd.prog Tryd.f3 (OpenSpec.ofChange Rows.wideRingsSpec) false w args) (Rows.wideRingsSpec.post enc Tryd.prog Tryd.f3 false true false false) := by
  refine returnsInHanded_of_change_and (C := Tryd.checked) (X := fun w _ => laidMetH Tryd.prog lay3 w) (fun _ _ _ hh h => h.of_heap hh) own started (by kernel_rfl) Tryd.func3
    (ChangeSpec.witness_shaped (enc := enc) (C := Tryd.checked) (os := os) (X := fun w _ => laidMetH Tryd.prog lay3 w) false (World.doorLaid Tryd.prog 400 os) #[.agg #[.int .u64 0, .int .u64 0, .int .u64 0, .int .u64 0], .agg #[.int .u64 0, .int .u64 0, .int .u64 0, .int .u64 0], .agg #[.int .u64 0, .int .u64 0, .int .u64 0, .int .u64 0]] 8 rfl (World.shaped_of_RefB (by kernel_rfl) (by kernel_rfl)) (by kernel_rfl) (by kernel_rfl) (by kernel_rfl) (door_met os _)) ?_
  intro W base args ds gs before hval0 hW _ _ hL _
  have hval : ∀ (j : Nat) t v, Tryd.f3.params[j]? = some t → args[j]? = some v → Value.okWide Tryd.prog W .any base t v := hval0
  have hW' := hW
  obtain ⟨p, q, hA0, hV, rfl, hfz, hnd⟩ := hW
  have hA : DataW.TrodAll enc Tryd.prog W 0 (fun _ => true) true Tryd.f3.params.toList args.toList ds p := hA0
  rw [Tryd.params3] at hA hval
  obtain ⟨v0, vs0, d0, ds0, p0, q0, hargs, rfl, rfl, h0, r0⟩ := trodAll_cons hA
  obtain ⟨v1, vs1, d1, ds1, p1, q1, rfl, rfl, rfl, h1, r1⟩ := trodAll_cons r0
  obtain ⟨v2, vs2, d2, ds2, p2, q2, rfl, rfl, rfl, h2, r2⟩ := trodAll_cons r1
  obtain ⟨rfl, rfl, rfl⟩ := trodAll_nil r2
  obtain rfl : args = #[v0, v1, v2] := by cases args; simp_all
  obtain ⟨rfl, rfl⟩ := trodVars_none hV
  obtain ⟨z0, rfl, rfl, rfl, f0⟩ := open_i4 (hval 0 24 v0 rfl rfl) h0
  obtain ⟨z1, rfl, rfl, rfl, f1⟩ := open_i4 (hval 1 24 v1 rfl rfl) h1
  obtain ⟨z2, rfl, rfl, rfl, f2⟩ := open_i4 (hval 2 24 v2 rfl rfl) h2
  clear hA0 hval0
  refine (walk z0 z1 z2 W f0 f1 f2 (pow_of hL)).mono fun e W' ⟨he, bel⟩ => ?_
  subst he
  exact ⟨_, rfl, _, _, _, [], _, [], hW', trodAll_mk1 (shut_bool Tryd.underlying4 _), (trodAll_cons_mk (shut_i4 _) (trodAll_cons_mk (shut_i4 _) (trodAll_cons_mk (shut_i4 _) trodAll_mk0))), rfl, bel.frame _, fun h => by cases h⟩

theorem over : Rows.WideRingsSaid :=
  OpenClaim.holds_of_wide 3 Tryd.f3 rfl rfl rfl rfl rfl rfl rfl ⟨rfl, rfl, rfl, rfl, rfl⟩ rfl rfl rfl rfl rfl (by kernel_rfl) Tryd.func3 (by kernel_rfl)
    (of_decide_eq_true (by kernel_rfl)) (by unfold Func.isWrapper; first | (rw [if_pos (by decide +kernel)]; kernel_rfl) | (rw [if_neg (by decide +kernel)]; exact ⟨rfl, rfl⟩))
    (fun os started H enc _ => lifted os started H enc)

/-- THE STATEMENT -/
theorem proved : Rows.WideRingsCardSaid :=
  Claim7.holds_tied_plain_at .later [] [.data, .data, .data] true (true, "47736ff30275cea319144992b9be9eacce67dcf5cce1ba0c7c9b132f2de78be1") false
    over (fun _ h => by cases h) (by kernel_rfl) (fun _ h => by cases h) wideRings_row_tie rfl ⟨rfl, rfl⟩ (by kernel_rfl) rfl
    (fun f fn hf hfn => by
      obtain rfl : f = 3 := Option.some.inj ((show Tryd.prog.funcNamed "croft/croftlaw03.WideRings" = some 3 by kernel_rfl).symm.trans hf) |>.symm
      obtain rfl : fn = Tryd.f3 := (Option.some.inj (Tryd.func3.symm.trans hfn)).symm
      exact ⟨by kernel_rfl, fun j t ht => by
        rw [Tryd.params3] at ht
        have hm : t ∈ [24, 24, 24] := by simpa using Array.mem_of_getElem? ht
        have hall : ([24, 24, 24].all fun u => !Tryd.prog.wantsStandIn u) = true := by kernel_rfl
        exact (show Tryd.prog.wantsStandIn t = false by simpa using List.all_eq_true.1 hall t hm)⟩)
    (by kernel_rfl)
#print axioms proved
end Go.Proofs.YtfgamdhhdiogjaaDoor.wideRings
