/- merged: The contract of wide.Div. Conditions: numbers that a wide.Int can be. The contract of wide.Gcd. Conditions: numbers that a wide.Int can be. The contract of wide.Above. Conditions: numbers that a wide.Int can be. -/
import Derived.Test.YtdnjkminicmffaaDoorWideH
import Derived.Test.YtdnjkminicmffaaDoorWideY
import Derived.Test.YtdnjkminicmffaaDoorMemoW
import Derived.Deep.LoopGhost
import Derived.Test.YtdnjkminicmffaaDoorWideJ
import Derived.Deep.QuietTactic
section
namespace Go.Proofs.YtdnjkminicmffaaDoor
open Go.ChangeShapes Go.WideShapes Go.ChangeAt Go.RowKit
set_option linter.unusedVariables false
set_option linter.unusedSimpArgs false

set_option maxRecDepth 20000 in
theorem div_zero (a : Int) (w : World) :
    Calls Tryd.prog 20 #[.agg #[.int .u64 (L0 a), .int .u64 (L1 a), .int .u64 (L2 a), .int .u64 (L3 a)], .agg #[.int .u64 0, .int .u64 0, .int .u64 0, .int .u64 0]] w fun e w' => e = .returned (.tuple #[.agg #[.int .u64 0, .int .u64 0, .int .u64 0, .int .u64 0], .agg #[.int .u64 0, .int .u64 0, .int .u64 0, .int .u64 0], .int .i64 4]) ∧ Below w.heap.size w w' := by
  have EQ : ∀ w, (Op.equalIn 10000 24 (.agg #[.int .u64 0, .int .u64 0, .int .u64 0, .int .u64 0]) (.agg #[.int .u64 0, .int .u64 0, .int .u64 0, .int .u64 0])).run Tryd.prog w = .ok true w := fun w => (eq_Int _ _ _ _ _ _ _ _ w).trans rfl
  go_enter Tryd.func20, Tryd.ntmps20
  go_wp2
  try simp only [setCell_drawn]
  refine bodyPost_ret (by simp [results, Tryd.results20, go_sem]) rfl ⟨rfl, ?_⟩
  repeat' (first | (with_reducible exact Below.refl _ _) | (with_reducible assumption) | (with_reducible refine below_drewN ?_ _) | (with_reducible refine Below.drew ?_) | (with_reducible refine Below.alloc ?_ ?_ _) | (with_reducible refine Below.setCell ?_ ?_ _) | (with_reducible refine then_ ?_ (by with_reducible assumption) ?_) | (with_reducible exact Nat.le_refl _) | (with_reducible exact Nat.le_succ _) | (with_reducible exact Nat.le_succ_of_le (by with_reducible assumption)) | omega | (simp; done) | (simp; omega) | (exact Nat.le_succ _) | (exact Nat.le_succ_of_le (by with_reducible assumption)))

theorem en_sizeOf : ∀ args w, (callFunc 42 args).run Tryd.prog w = .ok (.enter 42 args) w := enter_of Tryd.func42 rfl rfl
theorem en_divide : ∀ args w, (callFunc 44 args).run Tryd.prog w = .ok (.enter 44 args) w := enter_of Tryd.func44 rfl rfl
theorem en_below : ∀ args w, (callFunc 35 args).run Tryd.prog w = .ok (.enter 35 args) w := enter_of Tryd.func35 rfl rfl
theorem en_signed : ∀ args w, (callFunc 43 args).run Tryd.prog w = .ok (.enter 43 args) w := enter_of Tryd.func43 rfl rfl

set_option maxHeartbeats 16000000 in
set_option maxRecDepth 20000 in
theorem div_walk (a b q r aa bb zq zr : Int) (sa sb : Bool) (EQ : ∀ w, (Op.equalIn 10000 24 (.agg #[.int .u64 (L0 b), .int .u64 (L1 b), .int .u64 (L2 b), .int .u64 (L3 b)]) (.agg #[.int .u64 0, .int .u64 0, .int .u64 0, .int .u64 0])).run Tryd.prog w = .ok false w)
    (SA1 : ∀ w, Calls Tryd.prog 42 #[.agg #[.int .u64 (L0 a), .int .u64 (L1 a), .int .u64 (L2 a), .int .u64 (L3 a)]] w fun e w' => e = .returned (.agg #[.int .u64 (L0 aa), .int .u64 (L1 aa), .int .u64 (L2 aa), .int .u64 (L3 aa)]) ∧ Below w.heap.size w w') (SB1 : ∀ w, Calls Tryd.prog 42 #[.agg #[.int .u64 (L0 b), .int .u64 (L1 b), .int .u64 (L2 b), .int .u64 (L3 b)]] w fun e w' => e = .returned (.agg #[.int .u64 (L0 bb), .int .u64 (L1 bb), .int .u64 (L2 bb), .int .u64 (L3 bb)]) ∧ Below w.heap.size w w')
    (DV1 : ∀ w, Calls Tryd.prog 44 #[.agg #[.int .u64 (L0 aa), .int .u64 (L1 aa), .int .u64 (L2 aa), .int .u64 (L3 aa)], .agg #[.int .u64 (L0 bb), .int .u64 (L1 bb), .int .u64 (L2 bb), .int .u64 (L3 bb)]] w fun e w' => e = .returned (.tuple #[.agg #[.int .u64 (L0 q), .int .u64 (L1 q), .int .u64 (L2 q), .int .u64 (L3 q)], .agg #[.int .u64 (L0 r), .int .u64 (L1 r), .int .u64 (L2 r), .int .u64 (L3 r)]]) ∧ Below w.heap.size w w')
    (BA1 : ∀ w, Calls Tryd.prog 35 #[.agg #[.int .u64 (L0 a), .int .u64 (L1 a), .int .u64 (L2 a), .int .u64 (L3 a)]] w fun e w' => e = .returned (.bool sa) ∧ Below w.heap.size w w') (BB1 : ∀ w, Calls Tryd.prog 35 #[.agg #[.int .u64 (L0 b), .int .u64 (L1 b), .int .u64 (L2 b), .int .u64 (L3 b)]] w fun e w' => e = .returned (.bool sb) ∧ Below w.heap.size w w')
    (GQ1 : ∀ w, Calls Tryd.prog 43 #[.agg #[.int .u64 (L0 q), .int .u64 (L1 q), .int .u64 (L2 q), .int .u64 (L3 q)], .bool (!(sa == sb))] w fun e w' => e = .returned (.tuple #[.agg #[.int .u64 (L0 zq), .int .u64 (L1 zq), .int .u64 (L2 zq), .int .u64 (L3 zq)], .int .i64 0]) ∧ Below w.heap.size w w')
    (GR1 : ∀ w, Calls Tryd.prog 43 #[.agg #[.int .u64 (L0 r), .int .u64 (L1 r), .int .u64 (L2 r), .int .u64 (L3 r)], .bool sa] w fun e w' => e = .returned (.tuple #[.agg #[.int .u64 (L0 zr), .int .u64 (L1 zr), .int .u64 (L2 zr), .int .u64 (L3 zr)], .int .i64 0]) ∧ Below w.heap.size w w')
    (w : World) : Calls Tryd.prog 20 #[.agg #[.int .u64 (L0 a), .int .u64 (L1 a), .int .u64 (L2 a), .int .u64 (L3 a)], .agg #[.int .u64 (L0 b), .int .u64 (L1 b), .int .u64 (L2 b), .int .u64 (L3 b)]] w fun e w' => e = .returned (.tuple #[.agg #[.int .u64 (L0 zq), .int .u64 (L1 zq), .int .u64 (L2 zq), .int .u64 (L3 zq)], .agg #[.int .u64 (L0 zr), .int .u64 (L1 zr), .int .u64 (L2 zr), .int .u64 (L3 zr)], .int .i64 0]) ∧ Below w.heap.size w w' := by
  have SA := Lib.hid SA1
  have SB := Lib.hid SB1
  have DV := Lib.hid DV1
  have BA := Lib.hid BA1
  have BB := Lib.hid BB1
  have GQ := Lib.hid GQ1
  have GR := Lib.hid GR1
  clear GR1
  clear SA1 SB1 DV1 BA1 BB1 GQ1
  go_enter Tryd.func20, Tryd.ntmps20
  go_upto_region 3 with fail
  clear EQ
  go_name_world W0 hW0
  have OA : Own W0 w.heap.size 24 #[.int .u64 (L0 a), .int .u64 (L1 a), .int .u64 (L2 a), .int .u64 (L3 a)] := hW0 ▸ (by repeat' (first | (with_reducible assumption) | (with_reducible refine Own.drawnN ?_ _) | (with_reducible refine Own.drawn ?_) | (with_reducible refine Own.made_at ?_; first | rfl | (simp; done) | omega | (simp; omega)) | (with_reducible refine Own.more ?_ _) | (with_reducible refine Own.apart ?_ ?_ _ _; rotate_left; first | omega | (simp; done) | (simp; omega)) | (refine Own.put ?_ _ _)))
  have OB : Own W0 (w.heap.size + 1) 24 #[.int .u64 (L0 b), .int .u64 (L1 b), .int .u64 (L2 b), .int .u64 (L3 b)] := hW0 ▸ (by repeat' (first | (with_reducible assumption) | (with_reducible refine Own.drawnN ?_ _) | (with_reducible refine Own.drawn ?_) | (with_reducible refine Own.made_at ?_; first | rfl | (simp; done) | omega | (simp; omega)) | (with_reducible refine Own.more ?_ _) | (with_reducible refine Own.apart ?_ ?_ _ _; rotate_left; first | omega | (simp; done) | (simp; omega)) | (refine Own.put ?_ _ _)))
  have OR : Own W0 (w.heap.size + 1 + 1) 24 #[.int .u64 0, .int .u64 0, .int .u64 0, .int .u64 0] := hW0 ▸ (by repeat' (first | (with_reducible assumption) | (with_reducible refine Own.drawnN ?_ _) | (with_reducible refine Own.drawn ?_) | (with_reducible refine Own.made_at ?_; first | rfl | (simp; done) | omega | (simp; omega)) | (with_reducible refine Own.more ?_ _) | (with_reducible refine Own.apart ?_ ?_ _ _; rotate_left; first | omega | (simp; done) | (simp; omega)) | (refine Own.put ?_ _ _)))
  have OS : Own W0 (w.heap.size + 1 + 1 + 1) 24 #[.int .u64 0, .int .u64 0, .int .u64 0, .int .u64 0] := hW0 ▸ (by repeat' (first | (with_reducible assumption) | (with_reducible refine Own.drawnN ?_ _) | (with_reducible refine Own.drawn ?_) | (with_reducible refine Own.made_at ?_; first | rfl | (simp; done) | omega | (simp; omega)) | (with_reducible refine Own.more ?_ _) | (with_reducible refine Own.apart ?_ ?_ _ _; rotate_left; first | omega | (simp; done) | (simp; omega)) | (refine Own.put ?_ _ _)))
  have hW0b : Below w.heap.size w W0 := hW0 ▸ (by repeat' (first | (with_reducible exact Below.refl _ _) | (with_reducible assumption) | (with_reducible refine below_drewN ?_ _) | (with_reducible refine Below.drew ?_) | (with_reducible refine Below.alloc ?_ ?_ _) | (with_reducible refine Below.setCell ?_ ?_ _) | (with_reducible refine then_ ?_ (by with_reducible assumption) ?_) | (with_reducible exact Nat.le_refl _) | (with_reducible exact Nat.le_succ _) | (with_reducible exact Nat.le_succ_of_le (by with_reducible assumption)) | omega | (simp; done) | (simp; omega) | (exact Nat.le_succ _) | (exact Nat.le_succ_of_le (by with_reducible assumption))))
  clear hW0
  have hz0 := OS.in_
  refine region_memo (B := W0.heap.size) (L := .val (.agg #[.int .u64 (L0 a), .int .u64 (L1 a), .int .u64 (L2 a), .int .u64 (L3 a)]) :: .val (.agg #[.int .u64 (L0 aa), .int .u64 (L1 aa), .int .u64 (L2 aa), .int .u64 (L3 aa)]) :: .val (.agg #[.int .u64 (L0 b), .int .u64 (L1 b), .int .u64 (L2 b), .int .u64 (L3 b)]) :: .val (.agg #[.int .u64 (L0 bb), .int .u64 (L1 bb), .int .u64 (L2 bb), .int .u64 (L3 bb)]) :: .val (.tuple #[(.agg #[.int .u64 (L0 q), .int .u64 (L1 q), .int .u64 (L2 q), .int .u64 (L3 q)]), (.agg #[.int .u64 (L0 r), .int .u64 (L1 r), .int .u64 (L2 r), .int .u64 (L3 r)])]) :: .val (.tuple #[(.agg #[.int .u64 (L0 q), .int .u64 (L1 q), .int .u64 (L2 q), .int .u64 (L3 q)]), (.agg #[.int .u64 (L0 r), .int .u64 (L1 r), .int .u64 (L2 r), .int .u64 (L3 r)])]) :: .val (.agg #[.int .u64 (L0 q), .int .u64 (L1 q), .int .u64 (L2 q), .int .u64 (L3 q)]) :: .val (.agg #[.int .u64 (L0 r), .int .u64 (L1 r), .int .u64 (L2 r), .int .u64 (L3 r)]) :: .blk 55 4 :: .blk 55 4 :: .put 7 55 #[.int .u64 (L0 q), .int .u64 (L1 q), .int .u64 (L2 q), .int .u64 (L3 q)] :: .put 8 55 #[.int .u64 (L0 r), .int .u64 (L1 r), .int .u64 (L2 r), .int .u64 (L3 r)] :: []) (by kernel_rfl) (by kernel_rfl) (Nat.le_refl _) ((by exact trivial))
    ⟨fun a w R => ld24 (R.slot 2 rfl) (R.keep OA.drawn (by repeat' (first | exact trivial | refine Off.v ?_ | refine Off.k ?_ | refine Off.b ?_ | refine Off.p ?_ | refine Off.s ?_ ?_ | omega))), fun a w R => cl1 en_sizeOf (R.val 0 rfl rfl rfl (by kernel_rfl)) (SA.out _), fun a w R => ld24 (R.slot 3 rfl) (R.keep OB.drawn (by repeat' (first | exact trivial | refine Off.v ?_ | refine Off.k ?_ | refine Off.b ?_ | refine Off.p ?_ | refine Off.s ?_ ?_ | omega))), fun a w R => cl1 en_sizeOf (R.val 2 rfl rfl rfl (by kernel_rfl)) (SB.out _), fun a w R => cl2 en_divide (R.val 1 rfl rfl rfl (by kernel_rfl)) (R.val 3 rfl rfl rfl (by kernel_rfl)) (DV.out _), fun a w R => mv (R.val 4 rfl rfl rfl (by kernel_rfl)), fun a w R => ex0 (R.val 5 rfl rfl rfl (by kernel_rfl)), fun a w R => ex1 (R.val 5 rfl rfl rfl (by kernel_rfl)), fun a w R => al63, fun a w R => al63, fun a w R => sb63 (R.dep 8 rfl (by kernel_rfl)) (R.val 6 rfl rfl rfl (by kernel_rfl)), fun a w R => sb63 (R.dep 9 rfl (by kernel_rfl)) (R.val 7 rfl rfl rfl (by kernel_rfl)), trivial⟩ (fun a1 W1 I => ?_)
  obtain ⟨b7, e7, l7, o7⟩ := I.put 10 rfl rfl
  obtain ⟨b8, e8, l8, o8⟩ := I.put 11 rfl rfl
  have n7_8 := I.far 8 9 rfl rfl (by omega) rfl rfl rfl rfl e7 e8
  rw [I.act [(19, (.agg #[.int .u64 (L0 a), .int .u64 (L1 a), .int .u64 (L2 a), .int .u64 (L3 a)])), (20, (.agg #[.int .u64 (L0 aa), .int .u64 (L1 aa), .int .u64 (L2 aa), .int .u64 (L3 aa)])), (21, (.agg #[.int .u64 (L0 b), .int .u64 (L1 b), .int .u64 (L2 b), .int .u64 (L3 b)])), (22, (.agg #[.int .u64 (L0 bb), .int .u64 (L1 bb), .int .u64 (L2 bb), .int .u64 (L3 bb)])), (23, (.tuple #[(.agg #[.int .u64 (L0 q), .int .u64 (L1 q), .int .u64 (L2 q), .int .u64 (L3 q)]), (.agg #[.int .u64 (L0 r), .int .u64 (L1 r), .int .u64 (L2 r), .int .u64 (L3 r)])])), (18, (.tuple #[(.agg #[.int .u64 (L0 q), .int .u64 (L1 q), .int .u64 (L2 q), .int .u64 (L3 q)]), (.agg #[.int .u64 (L0 r), .int .u64 (L1 r), .int .u64 (L2 r), .int .u64 (L3 r)])])), (24, (.agg #[.int .u64 (L0 q), .int .u64 (L1 q), .int .u64 (L2 q), .int .u64 (L3 q)])), (25, (.agg #[.int .u64 (L0 r), .int .u64 (L1 r), .int .u64 (L2 r), .int .u64 (L3 r)])), (7, .pointer (some ⟨b7, 0, none⟩)), (8, .pointer (some ⟨b8, 0, none⟩))]
    ⟨I.val 0 rfl rfl rfl, I.val 1 rfl rfl rfl, I.val 2 rfl rfl rfl, I.val 3 rfl rfl rfl, I.val 4 rfl rfl rfl, I.val 5 rfl rfl rfl, I.val 6 rfl rfl rfl, I.val 7 rfl rfl rfl, e7, e8, trivial⟩ rfl]
  change W0.heap.size ≤ b7 at l7
  change W0.heap.size ≤ b8 at l8
  have sW1 : W0.heap.size ≤ W1.heap.size := I.below.size
  replace OA := I.keep OA.drawn (by repeat' (first | exact trivial | refine Off.v ?_ | refine Off.k ?_ | refine Off.b ?_ | refine Off.p ?_ | refine Off.s ?_ ?_ | omega))
  replace OB := I.keep OB.drawn (by repeat' (first | exact trivial | refine Off.v ?_ | refine Off.k ?_ | refine Off.b ?_ | refine Off.p ?_ | refine Off.s ?_ ?_ | omega))
  replace OR := I.keep OR.drawn (by repeat' (first | exact trivial | refine Off.v ?_ | refine Off.k ?_ | refine Off.b ?_ | refine Off.p ?_ | refine Off.s ?_ ?_ | omega))
  replace OS := I.keep OS.drawn (by repeat' (first | exact trivial | refine Off.v ?_ | refine Off.k ?_ | refine Off.b ?_ | refine Off.p ?_ | refine Off.s ?_ ?_ | omega))
  have hW1 : Below w.heap.size w W1 := then_ hW0b.drew I.below hW0b.size
  clear e7 e8
  clear I
  simp only [List.foldl_cons, List.foldl_nil, List.setIfInBounds_toArray, List.set_cons_zero, List.set_cons_succ]
  go_upto_region 4 with fail
  refine region_memo (B := W1.heap.size) (L := .val (.agg #[.int .u64 (L0 q), .int .u64 (L1 q), .int .u64 (L2 q), .int .u64 (L3 q)]) :: .val (.agg #[.int .u64 (L0 a), .int .u64 (L1 a), .int .u64 (L2 a), .int .u64 (L3 a)]) :: .val (.bool sa) :: .val (.agg #[.int .u64 (L0 b), .int .u64 (L1 b), .int .u64 (L2 b), .int .u64 (L3 b)]) :: .val (.bool sb) :: .val (.bool (!(sa == sb))) :: .val (.tuple #[(.agg #[.int .u64 (L0 zq), .int .u64 (L1 zq), .int .u64 (L2 zq), .int .u64 (L3 zq)]), (.int .i64 0)]) :: .val (.tuple #[(.agg #[.int .u64 (L0 zq), .int .u64 (L1 zq), .int .u64 (L2 zq), .int .u64 (L3 zq)]), (.int .i64 0)]) :: .val (.agg #[.int .u64 (L0 zq), .int .u64 (L1 zq), .int .u64 (L2 zq), .int .u64 (L3 zq)]) :: .val (.int .i64 0) :: .blk 24 4 :: .put 9 24 #[.int .u64 (L0 zq), .int .u64 (L1 zq), .int .u64 (L2 zq), .int .u64 (L3 zq)] :: .val (.int .i64 0) :: []) (by kernel_rfl) (by kernel_rfl) (Nat.le_refl _) ((by exact trivial))
    ⟨fun a w R => ld63 (R.slot 7 rfl) (R.keep o7.drawn (by repeat' (first | exact trivial | refine Off.v ?_ | refine Off.k ?_ | refine Off.b ?_ | refine Off.p ?_ | refine Off.s ?_ ?_ | omega))), fun a w R => ld24 (R.slot 2 rfl) (R.keep OA.drawn (by repeat' (first | exact trivial | refine Off.v ?_ | refine Off.k ?_ | refine Off.b ?_ | refine Off.p ?_ | refine Off.s ?_ ?_ | omega))), fun a w R => cl1 en_below (R.val 1 rfl rfl rfl (by kernel_rfl)) (BA.out _), fun a w R => ld24 (R.slot 3 rfl) (R.keep OB.drawn (by repeat' (first | exact trivial | refine Off.v ?_ | refine Off.k ?_ | refine Off.b ?_ | refine Off.p ?_ | refine Off.s ?_ ?_ | omega))), fun a w R => cl1 en_below (R.val 3 rfl rfl rfl (by kernel_rfl)) (BB.out _), fun a w R => neqb (R.val 2 rfl rfl rfl (by kernel_rfl)) (R.val 4 rfl rfl rfl (by kernel_rfl)), fun a w R => cl2 en_signed (R.val 0 rfl rfl rfl (by kernel_rfl)) (R.val 5 rfl rfl rfl (by kernel_rfl)) (GQ.out _), fun a w R => mv (R.val 6 rfl rfl rfl (by kernel_rfl)), fun a w R => ex0 (R.val 7 rfl rfl rfl (by kernel_rfl)), fun a w R => ex1 (R.val 7 rfl rfl rfl (by kernel_rfl)), fun a w R => al24, fun a w R => sb24 (R.dep 10 rfl (by kernel_rfl)) (R.val 8 rfl rfl rfl (by kernel_rfl)), fun a w R => asg (R.val 9 rfl rfl rfl (by kernel_rfl)), trivial⟩ (fun a1 W2 I => ?_)
  obtain ⟨b9, e9, l9, o9⟩ := I.put 11 rfl rfl
  rw [I.act [(27, (.agg #[.int .u64 (L0 q), .int .u64 (L1 q), .int .u64 (L2 q), .int .u64 (L3 q)])), (28, (.agg #[.int .u64 (L0 a), .int .u64 (L1 a), .int .u64 (L2 a), .int .u64 (L3 a)])), (29, (.bool sa)), (30, (.agg #[.int .u64 (L0 b), .int .u64 (L1 b), .int .u64 (L2 b), .int .u64 (L3 b)])), (31, (.bool sb)), (32, (.bool (!(sa == sb)))), (33, (.tuple #[(.agg #[.int .u64 (L0 zq), .int .u64 (L1 zq), .int .u64 (L2 zq), .int .u64 (L3 zq)]), (.int .i64 0)])), (26, (.tuple #[(.agg #[.int .u64 (L0 zq), .int .u64 (L1 zq), .int .u64 (L2 zq), .int .u64 (L3 zq)]), (.int .i64 0)])), (34, (.agg #[.int .u64 (L0 zq), .int .u64 (L1 zq), .int .u64 (L2 zq), .int .u64 (L3 zq)])), (35, (.int .i64 0)), (9, .pointer (some ⟨b9, 0, none⟩)), (10, (.int .i64 0))]
    ⟨I.val 0 rfl rfl rfl, I.val 1 rfl rfl rfl, I.val 2 rfl rfl rfl, I.val 3 rfl rfl rfl, I.val 4 rfl rfl rfl, I.val 5 rfl rfl rfl, I.val 6 rfl rfl rfl, I.val 7 rfl rfl rfl, I.val 8 rfl rfl rfl, I.val 9 rfl rfl rfl, e9, I.val 12 rfl rfl rfl, trivial⟩ rfl]
  change W1.heap.size ≤ b9 at l9
  have sW2 : W1.heap.size ≤ W2.heap.size := I.below.size
  replace OA := I.keep OA.drawn (by repeat' (first | exact trivial | refine Off.v ?_ | refine Off.k ?_ | refine Off.b ?_ | refine Off.p ?_ | refine Off.s ?_ ?_ | omega))
  replace OB := I.keep OB.drawn (by repeat' (first | exact trivial | refine Off.v ?_ | refine Off.k ?_ | refine Off.b ?_ | refine Off.p ?_ | refine Off.s ?_ ?_ | omega))
  replace OR := I.keep OR.drawn (by repeat' (first | exact trivial | refine Off.v ?_ | refine Off.k ?_ | refine Off.b ?_ | refine Off.p ?_ | refine Off.s ?_ ?_ | omega))
  replace OS := I.keep OS.drawn (by repeat' (first | exact trivial | refine Off.v ?_ | refine Off.k ?_ | refine Off.b ?_ | refine Off.p ?_ | refine Off.s ?_ ?_ | omega))
  replace o7 := I.keep o7.drawn (by repeat' (first | exact trivial | refine Off.v ?_ | refine Off.k ?_ | refine Off.b ?_ | refine Off.p ?_ | refine Off.s ?_ ?_ | omega))
  replace o8 := I.keep o8.drawn (by repeat' (first | exact trivial | refine Off.v ?_ | refine Off.k ?_ | refine Off.b ?_ | refine Off.p ?_ | refine Off.s ?_ ?_ | omega))
  have hW2 : Below w.heap.size w W2 := then_ hW1.drew I.below hW1.size
  clear e9
  clear I
  simp only [List.foldl_cons, List.foldl_nil, List.setIfInBounds_toArray, List.set_cons_zero, List.set_cons_succ]
  go_upto_region 7 with fail
  refine region_memo (B := W2.heap.size) (L := .val (.agg #[.int .u64 (L0 r), .int .u64 (L1 r), .int .u64 (L2 r), .int .u64 (L3 r)]) :: .val (.agg #[.int .u64 (L0 a), .int .u64 (L1 a), .int .u64 (L2 a), .int .u64 (L3 a)]) :: .val (.bool sa) :: .val (.tuple #[(.agg #[.int .u64 (L0 zr), .int .u64 (L1 zr), .int .u64 (L2 zr), .int .u64 (L3 zr)]), (.int .i64 0)]) :: .val (.tuple #[(.agg #[.int .u64 (L0 zr), .int .u64 (L1 zr), .int .u64 (L2 zr), .int .u64 (L3 zr)]), (.int .i64 0)]) :: .val (.agg #[.int .u64 (L0 zr), .int .u64 (L1 zr), .int .u64 (L2 zr), .int .u64 (L3 zr)]) :: .val (.int .i64 0) :: .blk 24 4 :: .put 11 24 #[.int .u64 (L0 zr), .int .u64 (L1 zr), .int .u64 (L2 zr), .int .u64 (L3 zr)] :: .val (.int .i64 0) :: []) (by kernel_rfl) (by kernel_rfl) (Nat.le_refl _) ((by exact trivial))
    ⟨fun a w R => ld63 (R.slot 8 rfl) (R.keep o8.drawn (by repeat' (first | exact trivial | refine Off.v ?_ | refine Off.k ?_ | refine Off.b ?_ | refine Off.p ?_ | refine Off.s ?_ ?_ | omega))), fun a w R => ld24 (R.slot 2 rfl) (R.keep OA.drawn (by repeat' (first | exact trivial | refine Off.v ?_ | refine Off.k ?_ | refine Off.b ?_ | refine Off.p ?_ | refine Off.s ?_ ?_ | omega))), fun a w R => cl1 en_below (R.val 1 rfl rfl rfl (by kernel_rfl)) (BA.out _), fun a w R => cl2 en_signed (R.val 0 rfl rfl rfl (by kernel_rfl)) (R.val 2 rfl rfl rfl (by kernel_rfl)) (GR.out _), fun a w R => mv (R.val 3 rfl rfl rfl (by kernel_rfl)), fun a w R => ex0 (R.val 4 rfl rfl rfl (by kernel_rfl)), fun a w R => ex1 (R.val 4 rfl rfl rfl (by kernel_rfl)), fun a w R => al24, fun a w R => sb24 (R.dep 7 rfl (by kernel_rfl)) (R.val 5 rfl rfl rfl (by kernel_rfl)), fun a w R => asg (R.val 6 rfl rfl rfl (by kernel_rfl)), trivial⟩ (fun a1 W3 I => ?_)
  obtain ⟨b11, e11, l11, o11⟩ := I.put 8 rfl rfl
  rw [I.act [(42, (.agg #[.int .u64 (L0 r), .int .u64 (L1 r), .int .u64 (L2 r), .int .u64 (L3 r)])), (43, (.agg #[.int .u64 (L0 a), .int .u64 (L1 a), .int .u64 (L2 a), .int .u64 (L3 a)])), (44, (.bool sa)), (45, (.tuple #[(.agg #[.int .u64 (L0 zr), .int .u64 (L1 zr), .int .u64 (L2 zr), .int .u64 (L3 zr)]), (.int .i64 0)])), (41, (.tuple #[(.agg #[.int .u64 (L0 zr), .int .u64 (L1 zr), .int .u64 (L2 zr), .int .u64 (L3 zr)]), (.int .i64 0)])), (46, (.agg #[.int .u64 (L0 zr), .int .u64 (L1 zr), .int .u64 (L2 zr), .int .u64 (L3 zr)])), (47, (.int .i64 0)), (11, .pointer (some ⟨b11, 0, none⟩)), (12, (.int .i64 0))]
    ⟨I.val 0 rfl rfl rfl, I.val 1 rfl rfl rfl, I.val 2 rfl rfl rfl, I.val 3 rfl rfl rfl, I.val 4 rfl rfl rfl, I.val 5 rfl rfl rfl, I.val 6 rfl rfl rfl, e11, I.val 9 rfl rfl rfl, trivial⟩ rfl]
  change W2.heap.size ≤ b11 at l11
  have sW3 : W2.heap.size ≤ W3.heap.size := I.below.size
  replace OA := I.keep OA.drawn (by repeat' (first | exact trivial | refine Off.v ?_ | refine Off.k ?_ | refine Off.b ?_ | refine Off.p ?_ | refine Off.s ?_ ?_ | omega))
  replace OR := I.keep OR.drawn (by repeat' (first | exact trivial | refine Off.v ?_ | refine Off.k ?_ | refine Off.b ?_ | refine Off.p ?_ | refine Off.s ?_ ?_ | omega))
  replace OS := I.keep OS.drawn (by repeat' (first | exact trivial | refine Off.v ?_ | refine Off.k ?_ | refine Off.b ?_ | refine Off.p ?_ | refine Off.s ?_ ?_ | omega))
  replace o8 := I.keep o8.drawn (by repeat' (first | exact trivial | refine Off.v ?_ | refine Off.k ?_ | refine Off.b ?_ | refine Off.p ?_ | refine Off.s ?_ ?_ | omega))
  replace o9 := I.keep o9.drawn (by repeat' (first | exact trivial | refine Off.v ?_ | refine Off.k ?_ | refine Off.b ?_ | refine Off.p ?_ | refine Off.s ?_ ?_ | omega))
  have hW3 : Below w.heap.size w W3 := then_ hW2.drew I.below hW2.size
  clear e11
  clear I
  simp only [List.foldl_cons, List.foldl_nil, List.setIfInBounds_toArray, List.set_cons_zero, List.set_cons_succ]
  go_upto_region 8 with fail
  have z0 := hW0b.size
  have z1 : W0.heap.size ≤ b9 := Nat.le_trans sW1 l9
  have z2 : W0.heap.size ≤ b11 := Nat.le_trans (Nat.le_trans sW1 sW2) l11
  refine region_memo (B := w.heap.size) (L := .val (.agg #[.int .u64 (L0 zq), .int .u64 (L1 zq), .int .u64 (L2 zq), .int .u64 (L3 zq)]) :: .val (.agg #[.int .u64 (L0 zr), .int .u64 (L1 zr), .int .u64 (L2 zr), .int .u64 (L3 zr)]) :: .sto ((w.heap.size+1+1)) 24 #[.int .u64 (L0 zq), .int .u64 (L1 zq), .int .u64 (L2 zq), .int .u64 (L3 zq)] :: .sto ((w.heap.size+1+1+1)) 24 #[.int .u64 (L0 zr), .int .u64 (L1 zr), .int .u64 (L2 zr), .int .u64 (L3 zr)] :: .val (.int .i64 0) :: []) (by kernel_rfl) (by kernel_rfl) (hW3.size) (Olds.v (Olds.v (Olds.s (by omega) OR.drawn.in_ (by repeat' (first | exact trivial | refine Off.v ?_ | refine Off.k ?_ | refine Off.b ?_ | refine Off.p ?_ | refine Off.s ?_ ?_ | omega)) (Olds.s (by omega) OS.drawn.in_ (by repeat' (first | exact trivial | refine Off.v ?_ | refine Off.k ?_ | refine Off.b ?_ | refine Off.p ?_ | refine Off.s ?_ ?_ | omega)) (Olds.v trivial)))))
    ⟨fun a w R => ld24 (R.slot 9 rfl) (R.keep o9.drawn (by repeat' (first | exact trivial | refine Off.v ?_ | refine Off.k ?_ | refine Off.b ?_ | refine Off.p ?_ | refine Off.s ?_ ?_ | omega))), fun a w R => ld24 (R.slot 11 rfl) (R.keep o11.drawn (by repeat' (first | exact trivial | refine Off.v ?_ | refine Off.k ?_ | refine Off.b ?_ | refine Off.p ?_ | refine Off.s ?_ ?_ | omega))), fun a w R => so24 (R.slot 4 rfl) (R.own rfl OR.drawn) rfl (R.val 0 rfl rfl rfl (by kernel_rfl)), fun a w R => so24 (R.slot 5 rfl) (R.own rfl OS.drawn) rfl (R.val 1 rfl rfl rfl (by kernel_rfl)), fun a w R => asc, trivial⟩ (fun a1 W4 I => ?_)
  rw [I.act [(48, (.agg #[.int .u64 (L0 zq), .int .u64 (L1 zq), .int .u64 (L2 zq), .int .u64 (L3 zq)])), (49, (.agg #[.int .u64 (L0 zr), .int .u64 (L1 zr), .int .u64 (L2 zr), .int .u64 (L3 zr)])), (6, (.int .i64 0))]
    ⟨I.val 0 rfl rfl rfl, I.val 1 rfl rfl rfl, I.val 4 rfl rfl rfl, trivial⟩ rfl]
  have sW4 : W3.heap.size ≤ W4.heap.size := I.below.size
  replace o9 := I.keep o9.drawn (by repeat' (first | exact trivial | refine Off.v ?_ | refine Off.k ?_ | refine Off.b ?_ | refine Off.p ?_ | refine Off.s ?_ ?_ | omega))
  replace o11 := I.keep o11.drawn (by repeat' (first | exact trivial | refine Off.v ?_ | refine Off.k ?_ | refine Off.b ?_ | refine Off.p ?_ | refine Off.s ?_ ?_ | omega))
  replace OR := I.sto 2 rfl rfl
  replace OS := I.sto 3 rfl rfl
  have hW4 : Below w.heap.size w W4 := hW3.drew.trans I.below
  clear I
  simp only [List.foldl_cons, List.foldl_nil, List.setIfInBounds_toArray, List.set_cons_zero, List.set_cons_succ]
  obtain ⟨R1, R2, R3⟩ := OR.at_
  obtain ⟨S1, S2, S3⟩ := OS.at_
  clear OR OS o9 o11 OA o8 SA SB DV BA BB GQ GR
  go_wp2
  try simp only [setCell_drawn]
  refine bodyPost_ret (by simp [results, Tryd.results20, go_sem, R1, S1]) rfl ⟨rfl, ?_⟩
  repeat' (first | (with_reducible exact Below.refl _ _) | (with_reducible assumption) | (with_reducible refine below_drewN ?_ _) | (with_reducible refine Below.drew ?_) | (with_reducible refine Below.alloc ?_ ?_ _) | (with_reducible refine Below.setCell ?_ ?_ _) | (with_reducible refine then_ ?_ (by with_reducible assumption) ?_) | (with_reducible exact Nat.le_refl _) | (with_reducible exact Nat.le_succ _) | (with_reducible exact Nat.le_succ_of_le (by with_reducible assumption)) | omega | (simp; done) | (simp; omega) | (exact Nat.le_succ _) | (exact Nat.le_succ_of_le (by with_reducible assumption)))
set_option maxHeartbeats 16000000 in
set_option maxRecDepth 20000 in
theorem div_over (a b q r aa bb : Int) (sa sb : Bool) (EQ : ∀ w, (Op.equalIn 10000 24 (.agg #[.int .u64 (L0 b), .int .u64 (L1 b), .int .u64 (L2 b), .int .u64 (L3 b)]) (.agg #[.int .u64 0, .int .u64 0, .int .u64 0, .int .u64 0])).run Tryd.prog w = .ok false w)
    (SA1 : ∀ w, Calls Tryd.prog 42 #[.agg #[.int .u64 (L0 a), .int .u64 (L1 a), .int .u64 (L2 a), .int .u64 (L3 a)]] w fun e w' => e = .returned (.agg #[.int .u64 (L0 aa), .int .u64 (L1 aa), .int .u64 (L2 aa), .int .u64 (L3 aa)]) ∧ Below w.heap.size w w') (SB1 : ∀ w, Calls Tryd.prog 42 #[.agg #[.int .u64 (L0 b), .int .u64 (L1 b), .int .u64 (L2 b), .int .u64 (L3 b)]] w fun e w' => e = .returned (.agg #[.int .u64 (L0 bb), .int .u64 (L1 bb), .int .u64 (L2 bb), .int .u64 (L3 bb)]) ∧ Below w.heap.size w w')
    (DV1 : ∀ w, Calls Tryd.prog 44 #[.agg #[.int .u64 (L0 aa), .int .u64 (L1 aa), .int .u64 (L2 aa), .int .u64 (L3 aa)], .agg #[.int .u64 (L0 bb), .int .u64 (L1 bb), .int .u64 (L2 bb), .int .u64 (L3 bb)]] w fun e w' => e = .returned (.tuple #[.agg #[.int .u64 (L0 q), .int .u64 (L1 q), .int .u64 (L2 q), .int .u64 (L3 q)], .agg #[.int .u64 (L0 r), .int .u64 (L1 r), .int .u64 (L2 r), .int .u64 (L3 r)]]) ∧ Below w.heap.size w w')
    (BA1 : ∀ w, Calls Tryd.prog 35 #[.agg #[.int .u64 (L0 a), .int .u64 (L1 a), .int .u64 (L2 a), .int .u64 (L3 a)]] w fun e w' => e = .returned (.bool sa) ∧ Below w.heap.size w w') (BB1 : ∀ w, Calls Tryd.prog 35 #[.agg #[.int .u64 (L0 b), .int .u64 (L1 b), .int .u64 (L2 b), .int .u64 (L3 b)]] w fun e w' => e = .returned (.bool sb) ∧ Below w.heap.size w w')
    (GQ1 : ∀ w, Calls Tryd.prog 43 #[.agg #[.int .u64 (L0 q), .int .u64 (L1 q), .int .u64 (L2 q), .int .u64 (L3 q)], .bool (!(sa == sb))] w fun e w' => e = .returned (.tuple #[.agg #[.int .u64 0, .int .u64 0, .int .u64 0, .int .u64 0], .int .i64 3]) ∧ Below w.heap.size w w')
    (w : World) : Calls Tryd.prog 20 #[.agg #[.int .u64 (L0 a), .int .u64 (L1 a), .int .u64 (L2 a), .int .u64 (L3 a)], .agg #[.int .u64 (L0 b), .int .u64 (L1 b), .int .u64 (L2 b), .int .u64 (L3 b)]] w fun e w' => e = .returned (.tuple #[.agg #[.int .u64 0, .int .u64 0, .int .u64 0, .int .u64 0], .agg #[.int .u64 0, .int .u64 0, .int .u64 0, .int .u64 0], .int .i64 3]) ∧ Below w.heap.size w w' := by
  have SA := Lib.hid SA1
  have SB := Lib.hid SB1
  have DV := Lib.hid DV1
  have BA := Lib.hid BA1
  have BB := Lib.hid BB1
  have GQ := Lib.hid GQ1
  clear SA1 SB1 DV1 BA1 BB1 GQ1
  go_enter Tryd.func20, Tryd.ntmps20
  go_upto_region 3 with fail
  clear EQ
  go_name_world W0 hW0
  have OA : Own W0 w.heap.size 24 #[.int .u64 (L0 a), .int .u64 (L1 a), .int .u64 (L2 a), .int .u64 (L3 a)] := hW0 ▸ (by repeat' (first | (with_reducible assumption) | (with_reducible refine Own.drawnN ?_ _) | (with_reducible refine Own.drawn ?_) | (with_reducible refine Own.made_at ?_; first | rfl | (simp; done) | omega | (simp; omega)) | (with_reducible refine Own.more ?_ _) | (with_reducible refine Own.apart ?_ ?_ _ _; rotate_left; first | omega | (simp; done) | (simp; omega)) | (refine Own.put ?_ _ _)))
  have OB : Own W0 (w.heap.size + 1) 24 #[.int .u64 (L0 b), .int .u64 (L1 b), .int .u64 (L2 b), .int .u64 (L3 b)] := hW0 ▸ (by repeat' (first | (with_reducible assumption) | (with_reducible refine Own.drawnN ?_ _) | (with_reducible refine Own.drawn ?_) | (with_reducible refine Own.made_at ?_; first | rfl | (simp; done) | omega | (simp; omega)) | (with_reducible refine Own.more ?_ _) | (with_reducible refine Own.apart ?_ ?_ _ _; rotate_left; first | omega | (simp; done) | (simp; omega)) | (refine Own.put ?_ _ _)))
  have OR : Own W0 (w.heap.size + 1 + 1) 24 #[.int .u64 0, .int .u64 0, .int .u64 0, .int .u64 0] := hW0 ▸ (by repeat' (first | (with_reducible assumption) | (with_reducible refine Own.drawnN ?_ _) | (with_reducible refine Own.drawn ?_) | (with_reducible refine Own.made_at ?_; first | rfl | (simp; done) | omega | (simp; omega)) | (with_reducible refine Own.more ?_ _) | (with_reducible refine Own.apart ?_ ?_ _ _; rotate_left; first | omega | (simp; done) | (simp; omega)) | (refine Own.put ?_ _ _)))
  have OS : Own W0 (w.heap.size + 1 + 1 + 1) 24 #[.int .u64 0, .int .u64 0, .int .u64 0, .int .u64 0] := hW0 ▸ (by repeat' (first | (with_reducible assumption) | (with_reducible refine Own.drawnN ?_ _) | (with_reducible refine Own.drawn ?_) | (with_reducible refine Own.made_at ?_; first | rfl | (simp; done) | omega | (simp; omega)) | (with_reducible refine Own.more ?_ _) | (with_reducible refine Own.apart ?_ ?_ _ _; rotate_left; first | omega | (simp; done) | (simp; omega)) | (refine Own.put ?_ _ _)))
  have hW0b : Below w.heap.size w W0 := hW0 ▸ (by repeat' (first | (with_reducible exact Below.refl _ _) | (with_reducible assumption) | (with_reducible refine below_drewN ?_ _) | (with_reducible refine Below.drew ?_) | (with_reducible refine Below.alloc ?_ ?_ _) | (with_reducible refine Below.setCell ?_ ?_ _) | (with_reducible refine then_ ?_ (by with_reducible assumption) ?_) | (with_reducible exact Nat.le_refl _) | (with_reducible exact Nat.le_succ _) | (with_reducible exact Nat.le_succ_of_le (by with_reducible assumption)) | omega | (simp; done) | (simp; omega) | (exact Nat.le_succ _) | (exact Nat.le_succ_of_le (by with_reducible assumption))))
  clear hW0
  have hz0 := OS.in_
  refine region_memo (B := W0.heap.size) (L := .val (.agg #[.int .u64 (L0 a), .int .u64 (L1 a), .int .u64 (L2 a), .int .u64 (L3 a)]) :: .val (.agg #[.int .u64 (L0 aa), .int .u64 (L1 aa), .int .u64 (L2 aa), .int .u64 (L3 aa)]) :: .val (.agg #[.int .u64 (L0 b), .int .u64 (L1 b), .int .u64 (L2 b), .int .u64 (L3 b)]) :: .val (.agg #[.int .u64 (L0 bb), .int .u64 (L1 bb), .int .u64 (L2 bb), .int .u64 (L3 bb)]) :: .val (.tuple #[(.agg #[.int .u64 (L0 q), .int .u64 (L1 q), .int .u64 (L2 q), .int .u64 (L3 q)]), (.agg #[.int .u64 (L0 r), .int .u64 (L1 r), .int .u64 (L2 r), .int .u64 (L3 r)])]) :: .val (.tuple #[(.agg #[.int .u64 (L0 q), .int .u64 (L1 q), .int .u64 (L2 q), .int .u64 (L3 q)]), (.agg #[.int .u64 (L0 r), .int .u64 (L1 r), .int .u64 (L2 r), .int .u64 (L3 r)])]) :: .val (.agg #[.int .u64 (L0 q), .int .u64 (L1 q), .int .u64 (L2 q), .int .u64 (L3 q)]) :: .val (.agg #[.int .u64 (L0 r), .int .u64 (L1 r), .int .u64 (L2 r), .int .u64 (L3 r)]) :: .blk 55 4 :: .blk 55 4 :: .put 7 55 #[.int .u64 (L0 q), .int .u64 (L1 q), .int .u64 (L2 q), .int .u64 (L3 q)] :: .put 8 55 #[.int .u64 (L0 r), .int .u64 (L1 r), .int .u64 (L2 r), .int .u64 (L3 r)] :: []) (by kernel_rfl) (by kernel_rfl) (Nat.le_refl _) ((by exact trivial))
    ⟨fun a w R => ld24 (R.slot 2 rfl) (R.keep OA.drawn (by repeat' (first | exact trivial | refine Off.v ?_ | refine Off.k ?_ | refine Off.b ?_ | refine Off.p ?_ | refine Off.s ?_ ?_ | omega))), fun a w R => cl1 en_sizeOf (R.val 0 rfl rfl rfl (by kernel_rfl)) (SA.out _), fun a w R => ld24 (R.slot 3 rfl) (R.keep OB.drawn (by repeat' (first | exact trivial | refine Off.v ?_ | refine Off.k ?_ | refine Off.b ?_ | refine Off.p ?_ | refine Off.s ?_ ?_ | omega))), fun a w R => cl1 en_sizeOf (R.val 2 rfl rfl rfl (by kernel_rfl)) (SB.out _), fun a w R => cl2 en_divide (R.val 1 rfl rfl rfl (by kernel_rfl)) (R.val 3 rfl rfl rfl (by kernel_rfl)) (DV.out _), fun a w R => mv (R.val 4 rfl rfl rfl (by kernel_rfl)), fun a w R => ex0 (R.val 5 rfl rfl rfl (by kernel_rfl)), fun a w R => ex1 (R.val 5 rfl rfl rfl (by kernel_rfl)), fun a w R => al63, fun a w R => al63, fun a w R => sb63 (R.dep 8 rfl (by kernel_rfl)) (R.val 6 rfl rfl rfl (by kernel_rfl)), fun a w R => sb63 (R.dep 9 rfl (by kernel_rfl)) (R.val 7 rfl rfl rfl (by kernel_rfl)), trivial⟩ (fun a1 W1 I => ?_)
  obtain ⟨b7, e7, l7, o7⟩ := I.put 10 rfl rfl
  obtain ⟨b8, e8, l8, o8⟩ := I.put 11 rfl rfl
  have n7_8 := I.far 8 9 rfl rfl (by omega) rfl rfl rfl rfl e7 e8
  rw [I.act [(19, (.agg #[.int .u64 (L0 a), .int .u64 (L1 a), .int .u64 (L2 a), .int .u64 (L3 a)])), (20, (.agg #[.int .u64 (L0 aa), .int .u64 (L1 aa), .int .u64 (L2 aa), .int .u64 (L3 aa)])), (21, (.agg #[.int .u64 (L0 b), .int .u64 (L1 b), .int .u64 (L2 b), .int .u64 (L3 b)])), (22, (.agg #[.int .u64 (L0 bb), .int .u64 (L1 bb), .int .u64 (L2 bb), .int .u64 (L3 bb)])), (23, (.tuple #[(.agg #[.int .u64 (L0 q), .int .u64 (L1 q), .int .u64 (L2 q), .int .u64 (L3 q)]), (.agg #[.int .u64 (L0 r), .int .u64 (L1 r), .int .u64 (L2 r), .int .u64 (L3 r)])])), (18, (.tuple #[(.agg #[.int .u64 (L0 q), .int .u64 (L1 q), .int .u64 (L2 q), .int .u64 (L3 q)]), (.agg #[.int .u64 (L0 r), .int .u64 (L1 r), .int .u64 (L2 r), .int .u64 (L3 r)])])), (24, (.agg #[.int .u64 (L0 q), .int .u64 (L1 q), .int .u64 (L2 q), .int .u64 (L3 q)])), (25, (.agg #[.int .u64 (L0 r), .int .u64 (L1 r), .int .u64 (L2 r), .int .u64 (L3 r)])), (7, .pointer (some ⟨b7, 0, none⟩)), (8, .pointer (some ⟨b8, 0, none⟩))]
    ⟨I.val 0 rfl rfl rfl, I.val 1 rfl rfl rfl, I.val 2 rfl rfl rfl, I.val 3 rfl rfl rfl, I.val 4 rfl rfl rfl, I.val 5 rfl rfl rfl, I.val 6 rfl rfl rfl, I.val 7 rfl rfl rfl, e7, e8, trivial⟩ rfl]
  change W0.heap.size ≤ b7 at l7
  change W0.heap.size ≤ b8 at l8
  have sW1 : W0.heap.size ≤ W1.heap.size := I.below.size
  replace OA := I.keep OA.drawn (by repeat' (first | exact trivial | refine Off.v ?_ | refine Off.k ?_ | refine Off.b ?_ | refine Off.p ?_ | refine Off.s ?_ ?_ | omega))
  replace OB := I.keep OB.drawn (by repeat' (first | exact trivial | refine Off.v ?_ | refine Off.k ?_ | refine Off.b ?_ | refine Off.p ?_ | refine Off.s ?_ ?_ | omega))
  replace OR := I.keep OR.drawn (by repeat' (first | exact trivial | refine Off.v ?_ | refine Off.k ?_ | refine Off.b ?_ | refine Off.p ?_ | refine Off.s ?_ ?_ | omega))
  replace OS := I.keep OS.drawn (by repeat' (first | exact trivial | refine Off.v ?_ | refine Off.k ?_ | refine Off.b ?_ | refine Off.p ?_ | refine Off.s ?_ ?_ | omega))
  have hW1 : Below w.heap.size w W1 := then_ hW0b.drew I.below hW0b.size
  clear e7 e8
  clear I
  simp only [List.foldl_cons, List.foldl_nil, List.setIfInBounds_toArray, List.set_cons_zero, List.set_cons_succ]
  go_upto_region 4 with fail
  refine region_memo (B := W1.heap.size) (L := .val (.agg #[.int .u64 (L0 q), .int .u64 (L1 q), .int .u64 (L2 q), .int .u64 (L3 q)]) :: .val (.agg #[.int .u64 (L0 a), .int .u64 (L1 a), .int .u64 (L2 a), .int .u64 (L3 a)]) :: .val (.bool sa) :: .val (.agg #[.int .u64 (L0 b), .int .u64 (L1 b), .int .u64 (L2 b), .int .u64 (L3 b)]) :: .val (.bool sb) :: .val (.bool (!(sa == sb))) :: .val (.tuple #[(.agg #[.int .u64 0, .int .u64 0, .int .u64 0, .int .u64 0]), (.int .i64 3)]) :: .val (.tuple #[(.agg #[.int .u64 0, .int .u64 0, .int .u64 0, .int .u64 0]), (.int .i64 3)]) :: .val (.agg #[.int .u64 0, .int .u64 0, .int .u64 0, .int .u64 0]) :: .val (.int .i64 3) :: .blk 24 4 :: .put 9 24 #[.int .u64 0, .int .u64 0, .int .u64 0, .int .u64 0] :: .val (.int .i64 3) :: []) (by kernel_rfl) (by kernel_rfl) (Nat.le_refl _) ((by exact trivial))
    ⟨fun a w R => ld63 (R.slot 7 rfl) (R.keep o7.drawn (by repeat' (first | exact trivial | refine Off.v ?_ | refine Off.k ?_ | refine Off.b ?_ | refine Off.p ?_ | refine Off.s ?_ ?_ | omega))), fun a w R => ld24 (R.slot 2 rfl) (R.keep OA.drawn (by repeat' (first | exact trivial | refine Off.v ?_ | refine Off.k ?_ | refine Off.b ?_ | refine Off.p ?_ | refine Off.s ?_ ?_ | omega))), fun a w R => cl1 en_below (R.val 1 rfl rfl rfl (by kernel_rfl)) (BA.out _), fun a w R => ld24 (R.slot 3 rfl) (R.keep OB.drawn (by repeat' (first | exact trivial | refine Off.v ?_ | refine Off.k ?_ | refine Off.b ?_ | refine Off.p ?_ | refine Off.s ?_ ?_ | omega))), fun a w R => cl1 en_below (R.val 3 rfl rfl rfl (by kernel_rfl)) (BB.out _), fun a w R => neqb (R.val 2 rfl rfl rfl (by kernel_rfl)) (R.val 4 rfl rfl rfl (by kernel_rfl)), fun a w R => cl2 en_signed (R.val 0 rfl rfl rfl (by kernel_rfl)) (R.val 5 rfl rfl rfl (by kernel_rfl)) (GQ.out _), fun a w R => mv (R.val 6 rfl rfl rfl (by kernel_rfl)), fun a w R => ex0 (R.val 7 rfl rfl rfl (by kernel_rfl)), fun a w R => ex1 (R.val 7 rfl rfl rfl (by kernel_rfl)), fun a w R => al24, fun a w R => sb24 (R.dep 10 rfl (by kernel_rfl)) (R.val 8 rfl rfl rfl (by kernel_rfl)), fun a w R => asg (R.val 9 rfl rfl rfl (by kernel_rfl)), trivial⟩ (fun a1 W2 I => ?_)
  obtain ⟨b9, e9, l9, o9⟩ := I.put 11 rfl rfl
  rw [I.act [(27, (.agg #[.int .u64 (L0 q), .int .u64 (L1 q), .int .u64 (L2 q), .int .u64 (L3 q)])), (28, (.agg #[.int .u64 (L0 a), .int .u64 (L1 a), .int .u64 (L2 a), .int .u64 (L3 a)])), (29, (.bool sa)), (30, (.agg #[.int .u64 (L0 b), .int .u64 (L1 b), .int .u64 (L2 b), .int .u64 (L3 b)])), (31, (.bool sb)), (32, (.bool (!(sa == sb)))), (33, (.tuple #[(.agg #[.int .u64 0, .int .u64 0, .int .u64 0, .int .u64 0]), (.int .i64 3)])), (26, (.tuple #[(.agg #[.int .u64 0, .int .u64 0, .int .u64 0, .int .u64 0]), (.int .i64 3)])), (34, (.agg #[.int .u64 0, .int .u64 0, .int .u64 0, .int .u64 0])), (35, (.int .i64 3)), (9, .pointer (some ⟨b9, 0, none⟩)), (10, (.int .i64 3))]
    ⟨I.val 0 rfl rfl rfl, I.val 1 rfl rfl rfl, I.val 2 rfl rfl rfl, I.val 3 rfl rfl rfl, I.val 4 rfl rfl rfl, I.val 5 rfl rfl rfl, I.val 6 rfl rfl rfl, I.val 7 rfl rfl rfl, I.val 8 rfl rfl rfl, I.val 9 rfl rfl rfl, e9, I.val 12 rfl rfl rfl, trivial⟩ rfl]
  change W1.heap.size ≤ b9 at l9
  have sW2 : W1.heap.size ≤ W2.heap.size := I.below.size
  replace OA := I.keep OA.drawn (by repeat' (first | exact trivial | refine Off.v ?_ | refine Off.k ?_ | refine Off.b ?_ | refine Off.p ?_ | refine Off.s ?_ ?_ | omega))
  replace OB := I.keep OB.drawn (by repeat' (first | exact trivial | refine Off.v ?_ | refine Off.k ?_ | refine Off.b ?_ | refine Off.p ?_ | refine Off.s ?_ ?_ | omega))
  replace OR := I.keep OR.drawn (by repeat' (first | exact trivial | refine Off.v ?_ | refine Off.k ?_ | refine Off.b ?_ | refine Off.p ?_ | refine Off.s ?_ ?_ | omega))
  replace OS := I.keep OS.drawn (by repeat' (first | exact trivial | refine Off.v ?_ | refine Off.k ?_ | refine Off.b ?_ | refine Off.p ?_ | refine Off.s ?_ ?_ | omega))
  replace o7 := I.keep o7.drawn (by repeat' (first | exact trivial | refine Off.v ?_ | refine Off.k ?_ | refine Off.b ?_ | refine Off.p ?_ | refine Off.s ?_ ?_ | omega))
  replace o8 := I.keep o8.drawn (by repeat' (first | exact trivial | refine Off.v ?_ | refine Off.k ?_ | refine Off.b ?_ | refine Off.p ?_ | refine Off.s ?_ ?_ | omega))
  have hW2 : Below w.heap.size w W2 := then_ hW1.drew I.below hW1.size
  clear e9
  clear I
  simp only [List.foldl_cons, List.foldl_nil, List.setIfInBounds_toArray, List.set_cons_zero, List.set_cons_succ]
  obtain ⟨R1, R2, R3⟩ := OR.at_
  obtain ⟨S1, S2, S3⟩ := OS.at_
  go_wp2
  try simp only [setCell_drawn]
  refine bodyPost_ret (by simp [results, Tryd.results20, go_sem, R1, S1]) rfl ⟨rfl, ?_⟩
  repeat' (first | (with_reducible exact Below.refl _ _) | (with_reducible assumption) | (with_reducible refine below_drewN ?_ _) | (with_reducible refine Below.drew ?_) | (with_reducible refine Below.alloc ?_ ?_ _) | (with_reducible refine Below.setCell ?_ ?_ _) | (with_reducible refine then_ ?_ (by with_reducible assumption) ?_) | (with_reducible exact Nat.le_refl _) | (with_reducible exact Nat.le_succ _) | (with_reducible exact Nat.le_succ_of_le (by with_reducible assumption)) | omega | (simp; done) | (simp; omega) | (exact Nat.le_succ _) | (exact Nat.le_succ_of_le (by with_reducible assumption)))

theorem tdiv_abs (a b : Int) : a.tdiv b = if (!(decide (a < 0) == decide (b < 0))) = true then 0 - (a.natAbs : Int) / b.natAbs else (a.natAbs : Int) / b.natAbs := by
  rcases Int.natAbs_eq a with ha | ha <;> rcases Int.natAbs_eq b with hb | hb <;> (
    generalize a.natAbs = m at *
    generalize b.natAbs = n at *
    subst ha hb
    simp only [Int.neg_tdiv, Int.tdiv_neg, Int.neg_neg, ← Int.ofNat_tdiv]
    rcases Nat.eq_zero_or_pos m with rfl | hm <;> rcases Nat.eq_zero_or_pos n with rfl | hn <;> simp <;> omega)
theorem tmod_abs (a b : Int) : a.tmod b = if decide (a < 0) = true then 0 - (a.natAbs : Int) % b.natAbs else (a.natAbs : Int) % b.natAbs := by
  rcases Int.natAbs_eq a with ha | ha <;> rcases Int.natAbs_eq b with hb | hb <;> (
    generalize a.natAbs = m at *
    generalize b.natAbs = n at *
    subst ha hb
    simp only [Int.neg_tmod, Int.tmod_neg, Int.neg_neg, ← Int.ofNat_tmod]
    rcases Nat.eq_zero_or_pos m with rfl | hm <;> rcases Nat.eq_zero_or_pos n with rfl | hn <;> simp <;> omega)
theorem quo_siz {a b : Int} (ha : Fit a) : Siz ((a.natAbs : Int) / b.natAbs) := by
  obtain ⟨_, _⟩ := ha
  have h1 := Int.ediv_le_self (b.natAbs : Int) (show (0 : Int) ≤ a.natAbs by omega)
  have h2 := Int.ediv_nonneg (show (0 : Int) ≤ a.natAbs by omega) (show (0 : Int) ≤ b.natAbs by omega)
  exact ⟨h2, by omega⟩
theorem rest_fit {a b : Int} (hb : Fit b) (h : b ≠ 0) : Siz ((a.natAbs : Int) % b.natAbs) ∧ Fit ((a.natAbs : Int) % b.natAbs) ∧ Fit (0 - (a.natAbs : Int) % b.natAbs) := by
  obtain ⟨_, _⟩ := hb
  have h1 := Int.emod_nonneg (a.natAbs : Int) (show (b.natAbs : Int) ≠ 0 by omega)
  have h2 := Int.emod_lt_of_pos (a.natAbs : Int) (show (0 : Int) < b.natAbs by omega)
  exact ⟨⟨by omega, by omega⟩, ⟨by omega, by omega⟩, ⟨by omega, by omega⟩⟩
theorem tmod_fit {a b : Int} (hb : Fit b) (h : b ≠ 0) : Fit (a.tmod b) := by
  rw [tmod_abs]
  obtain ⟨_, h1, h2⟩ := rest_fit (a := a) hb h
  split <;> assumption
theorem abs_siz {a : Int} (ha : Fit a) : Siz (a.natAbs : Int) := by
  obtain ⟨_, _⟩ := ha
  exact ⟨by omega, by omega⟩
theorem eq_no {b : Int} (hb : Fit b) (h : b ≠ 0) (w : World) : (Op.equalIn 10000 24 (.agg #[.int .u64 (L0 b), .int .u64 (L1 b), .int .u64 (L2 b), .int .u64 (L3 b)]) (.agg #[.int .u64 0, .int .u64 0, .int .u64 0, .int .u64 0])).run Tryd.prog w = .ok false w := by
  have := eq_fit hb fit0 w
  rw [decide_eq_false h] at this
  exact this
theorem div_fit (a b : Int) (ha : Fit a) (hb : Fit b) (h : b ≠ 0) (hc : Fit (a.tdiv b)) (w : World) :
    Calls Tryd.prog 20 #[.agg #[.int .u64 (L0 a), .int .u64 (L1 a), .int .u64 (L2 a), .int .u64 (L3 a)], .agg #[.int .u64 (L0 b), .int .u64 (L1 b), .int .u64 (L2 b), .int .u64 (L3 b)]] w fun e w' => e = .returned (.tuple #[.agg #[.int .u64 (L0 (a.tdiv b)), .int .u64 (L1 (a.tdiv b)), .int .u64 (L2 (a.tdiv b)), .int .u64 (L3 (a.tdiv b))], .agg #[.int .u64 (L0 (a.tmod b)), .int .u64 (L1 (a.tmod b)), .int .u64 (L2 (a.tmod b)), .int .u64 (L3 (a.tmod b))], .int .i64 0]) ∧ Below w.heap.size w w' :=
  div_walk a b ((a.natAbs : Int) / b.natAbs) ((a.natAbs : Int) % b.natAbs) _ _ (a.tdiv b) (a.tmod b) _ _ (eq_no hb h) (sizeOf_any a ha) (sizeOf_any b hb)
    (divide_any _ _ (abs_siz ha) (abs_siz hb) (by omega)) (below_o (ngB_fit ha)) (below_o (ngB_fit hb)) (signed_fit _ _ _ (quo_siz ha) (tdiv_abs a b) hc)
    (signed_fit _ _ _ (rest_fit hb h).1 (tmod_abs a b) (tmod_fit hb h)) w
theorem div_large (a b : Int) (ha : Fit a) (hb : Fit b) (h : b ≠ 0) (hc : ¬ Fit (a.tdiv b)) (w : World) :
    Calls Tryd.prog 20 #[.agg #[.int .u64 (L0 a), .int .u64 (L1 a), .int .u64 (L2 a), .int .u64 (L3 a)], .agg #[.int .u64 (L0 b), .int .u64 (L1 b), .int .u64 (L2 b), .int .u64 (L3 b)]] w fun e w' => e = .returned (.tuple #[.agg #[.int .u64 0, .int .u64 0, .int .u64 0, .int .u64 0], .agg #[.int .u64 0, .int .u64 0, .int .u64 0, .int .u64 0], .int .i64 3]) ∧ Below w.heap.size w w' :=
  div_over a b ((a.natAbs : Int) / b.natAbs) ((a.natAbs : Int) % b.natAbs) _ _ _ _ (eq_no hb h) (sizeOf_any a ha) (sizeOf_any b hb)
    (divide_any _ _ (abs_siz ha) (abs_siz hb) (by omega)) (below_o (ngB_fit ha)) (below_o (ngB_fit hb)) (signed_large _ _ _ (quo_siz ha) (tdiv_abs a b) hc) w
end Go.Proofs.YtdnjkminicmffaaDoor
end
section
namespace Go.Proofs.YtdnjkminicmffaaDoor
open Go.ChangeShapes Go.WideShapes Go.ChangeAt Go.RowKit
set_option linter.unusedVariables false

theorem gcd_step (m n g : Int) (hm : 0 ≤ m) (hn : 0 < n) (h : ((m.toNat).gcd n.toNat : Int) = g) : ((n.toNat).gcd (m % n).toNat : Int) = g := by
  obtain ⟨a, rfl⟩ := Int.eq_ofNat_of_zero_le hm
  obtain ⟨b, rfl⟩ := Int.eq_ofNat_of_zero_le (Int.le_of_lt hn)
  have e : (((a : Int) % (b : Int))).toNat = a % b := by rw [← Int.natCast_emod]; exact Int.toNat_natCast _
  rw [e]
  rw [Int.toNat_natCast, Int.toNat_natCast] at h
  rw [← h, Int.toNat_natCast, Nat.gcd_comm a b, Nat.gcd_rec b a, Nat.gcd_comm]
theorem Siz.mod {a b : Int} (ha : Siz a) (hb : Siz b) (h : 0 < b) : Siz (a % b) := by
  obtain ⟨h0, h1⟩ := hb
  have := Int.emod_nonneg a (show b ≠ 0 by omega)
  have := Int.emod_lt_of_pos a h
  exact ⟨by omega, by omega⟩

set_option maxHeartbeats 16000000 in
set_option maxRecDepth 20000 in
theorem Gcd_walk (a b g : Int) (ha : Fit a) (hb : Fit b) (hg : ((a.natAbs).gcd b.natAbs : Int) = g) (r0 r1 r2 r3 er : Int)
    (SG1 : ∀ w, Calls Tryd.prog 43 #[.agg #[.int .u64 (L0 g), .int .u64 (L1 g), .int .u64 (L2 g), .int .u64 (L3 g)], .bool false] w fun e w' => e = .returned (.tuple #[.agg #[.int .u64 r0, .int .u64 r1, .int .u64 r2, .int .u64 r3], .int .i64 er]) ∧ Below w.heap.size w w')
    (w : World) : Calls Tryd.prog 22 #[.agg #[.int .u64 (L0 a), .int .u64 (L1 a), .int .u64 (L2 a), .int .u64 (L3 a)], .agg #[.int .u64 (L0 b), .int .u64 (L1 b), .int .u64 (L2 b), .int .u64 (L3 b)]] w fun e w' => e = .returned (.tuple #[.agg #[.int .u64 r0, .int .u64 r1, .int .u64 r2, .int .u64 r3], .int .i64 er]) ∧ Below w.heap.size w w' := by
  have SG := Lib.hid SG1
  have SA := Lib.hid (fun w => sizeOf_any a ha w)
  have SB := Lib.hid (fun w => sizeOf_any b hb w)
  obtain ⟨aa, haa⟩ : ∃ x : Int, (a.natAbs : Int) = x := ⟨_, rfl⟩
  obtain ⟨bb, hbb⟩ : ∃ x : Int, (b.natAbs : Int) = x := ⟨_, rfl⟩
  rw [haa] at SA
  rw [hbb] at SB
  have GE : ((aa.toNat).gcd bb.toNat : Int) = g := by rw [← haa, ← hbb, Int.toNat_natCast, Int.toNat_natCast]; exact hg
  have GH := Lib.hid GE
  have sA : Siz aa := by obtain ⟨_, _⟩ := ha; exact ⟨by omega, by omega⟩
  have sB : Siz bb := by obtain ⟨_, _⟩ := hb; exact ⟨by omega, by omega⟩
  clear SG1 GE hg haa hbb ha hb
  go_enter Tryd.func22, Tryd.ntmps22
  go_upto_region 1 with fail
  go_name_world W0 hW0
  have OA : Own W0 w.heap.size 24 #[.int .u64 (L0 a), .int .u64 (L1 a), .int .u64 (L2 a), .int .u64 (L3 a)] := hW0 ▸ (by repeat' (first | (with_reducible assumption) | (with_reducible refine Own.drawnN ?_ _) | (with_reducible refine Own.drawn ?_) | (with_reducible refine Own.made_at ?_; first | rfl | (simp; done) | omega | (simp; omega)) | (with_reducible refine Own.more ?_ _) | (with_reducible refine Own.apart ?_ ?_ _ _; rotate_left; first | omega | (simp; done) | (simp; omega)) | (refine Own.put ?_ _ _)))
  have OB : Own W0 (w.heap.size + 1) 24 #[.int .u64 (L0 b), .int .u64 (L1 b), .int .u64 (L2 b), .int .u64 (L3 b)] := hW0 ▸ (by repeat' (first | (with_reducible assumption) | (with_reducible refine Own.drawnN ?_ _) | (with_reducible refine Own.drawn ?_) | (with_reducible refine Own.made_at ?_; first | rfl | (simp; done) | omega | (simp; omega)) | (with_reducible refine Own.more ?_ _) | (with_reducible refine Own.apart ?_ ?_ _ _; rotate_left; first | omega | (simp; done) | (simp; omega)) | (refine Own.put ?_ _ _)))
  have OR : Own W0 (w.heap.size + 1 + 1) 24 #[.int .u64 0, .int .u64 0, .int .u64 0, .int .u64 0] := hW0 ▸ (by repeat' (first | (with_reducible assumption) | (with_reducible refine Own.drawnN ?_ _) | (with_reducible refine Own.drawn ?_) | (with_reducible refine Own.made_at ?_; first | rfl | (simp; done) | omega | (simp; omega)) | (with_reducible refine Own.more ?_ _) | (with_reducible refine Own.apart ?_ ?_ _ _; rotate_left; first | omega | (simp; done) | (simp; omega)) | (refine Own.put ?_ _ _)))
  have hW0b : Below w.heap.size w W0 := hW0 ▸ (by repeat' (first | (with_reducible exact Below.refl _ _) | (with_reducible assumption) | (with_reducible refine below_drewN ?_ _) | (with_reducible refine Below.drew ?_) | (with_reducible refine Below.alloc ?_ ?_ _) | (with_reducible refine Below.setCell ?_ ?_ _) | (with_reducible refine then_ ?_ (by with_reducible assumption) ?_) | (with_reducible exact Nat.le_refl _) | (with_reducible exact Nat.le_succ _) | (with_reducible exact Nat.le_succ_of_le (by with_reducible assumption)) | omega | (simp; done) | (simp; omega) | (exact Nat.le_succ _) | (exact Nat.le_succ_of_le (by with_reducible assumption))))
  clear hW0
  have z0 := OR.in_
  have z1 := hW0b.size
  refine region_memo (B := W0.heap.size) (L := .val (.agg #[.int .u64 (L0 a), .int .u64 (L1 a), .int .u64 (L2 a), .int .u64 (L3 a)]) :: .val (.agg #[.int .u64 (L0 aa), .int .u64 (L1 aa), .int .u64 (L2 aa), .int .u64 (L3 aa)]) :: .val (.agg #[.int .u64 (L0 b), .int .u64 (L1 b), .int .u64 (L2 b), .int .u64 (L3 b)]) :: .val (.agg #[.int .u64 (L0 bb), .int .u64 (L1 bb), .int .u64 (L2 bb), .int .u64 (L3 bb)]) :: .blk 55 4 :: .blk 55 4 :: .put 6 55 #[.int .u64 (L0 aa), .int .u64 (L1 aa), .int .u64 (L2 aa), .int .u64 (L3 aa)] :: .put 7 55 #[.int .u64 (L0 bb), .int .u64 (L1 bb), .int .u64 (L2 bb), .int .u64 (L3 bb)] :: []) (by kernel_rfl) (by kernel_rfl) (Nat.le_refl _) ((by exact trivial))
    ⟨fun a w R => ld24 (R.slot 2 rfl) (R.keep OA.drawn (by repeat' (first | exact trivial | refine Off.v ?_ | refine Off.k ?_ | refine Off.b ?_ | refine Off.p ?_ | refine Off.s ?_ ?_ | omega))), fun a w R => cl1 en_sizeOf (R.val 0 rfl rfl rfl (by kernel_rfl)) (SA.out _), fun a w R => ld24 (R.slot 3 rfl) (R.keep OB.drawn (by repeat' (first | exact trivial | refine Off.v ?_ | refine Off.k ?_ | refine Off.b ?_ | refine Off.p ?_ | refine Off.s ?_ ?_ | omega))), fun a w R => cl1 en_sizeOf (R.val 2 rfl rfl rfl (by kernel_rfl)) (SB.out _), fun a w R => al63, fun a w R => al63, fun a w R => sb63 (R.dep 4 rfl (by kernel_rfl)) (R.val 1 rfl rfl rfl (by kernel_rfl)), fun a w R => sb63 (R.dep 5 rfl (by kernel_rfl)) (R.val 3 rfl rfl rfl (by kernel_rfl)), trivial⟩ (fun a1 W1 I => ?_)
  obtain ⟨b6, e6, l6, o6⟩ := I.put 6 rfl rfl
  obtain ⟨b7, e7, l7, o7⟩ := I.put 7 rfl rfl
  have n6_7 := I.far 4 5 rfl rfl (by omega) rfl rfl rfl rfl e6 e7
  rw [I.act [(10, (.agg #[.int .u64 (L0 a), .int .u64 (L1 a), .int .u64 (L2 a), .int .u64 (L3 a)])), (11, (.agg #[.int .u64 (L0 aa), .int .u64 (L1 aa), .int .u64 (L2 aa), .int .u64 (L3 aa)])), (12, (.agg #[.int .u64 (L0 b), .int .u64 (L1 b), .int .u64 (L2 b), .int .u64 (L3 b)])), (13, (.agg #[.int .u64 (L0 bb), .int .u64 (L1 bb), .int .u64 (L2 bb), .int .u64 (L3 bb)])), (6, .pointer (some ⟨b6, 0, none⟩)), (7, .pointer (some ⟨b7, 0, none⟩))]
    ⟨I.val 0 rfl rfl rfl, I.val 1 rfl rfl rfl, I.val 2 rfl rfl rfl, I.val 3 rfl rfl rfl, e6, e7, trivial⟩ rfl]
  change W0.heap.size ≤ b6 at l6
  change W0.heap.size ≤ b7 at l7
  have sW1 : W0.heap.size ≤ W1.heap.size := I.below.size
  replace OA := I.keep OA.drawn (by repeat' (first | exact trivial | refine Off.v ?_ | refine Off.k ?_ | refine Off.b ?_ | refine Off.p ?_ | refine Off.s ?_ ?_ | omega))
  replace OB := I.keep OB.drawn (by repeat' (first | exact trivial | refine Off.v ?_ | refine Off.k ?_ | refine Off.b ?_ | refine Off.p ?_ | refine Off.s ?_ ?_ | omega))
  replace OR := I.keep OR.drawn (by repeat' (first | exact trivial | refine Off.v ?_ | refine Off.k ?_ | refine Off.b ?_ | refine Off.p ?_ | refine Off.s ?_ ?_ | omega))
  have hW1 : Below w.heap.size w W1 := then_ hW0b.drew I.below hW0b.size
  clear e6 e7
  clear I
  simp only [List.foldl_cons, List.foldl_nil, List.setIfInBounds_toArray, List.set_cons_zero, List.set_cons_succ]
  have x6 : w.heap.size + 1 + 1 < b6 := by omega
  have x7 : w.heap.size + 1 + 1 < b7 := by omega
  clear z0 z1
  clear OA OB SA SB
  go_wp2_with fail
  go_loopg [] bb.toNat (fun k wr => ∃ m n : Int, n.toNat = k ∧ Siz m ∧ Siz n ∧ Hid (((m.toNat).gcd n.toNat : Int) = g) ∧ Own wr b6 55 #[.int .u64 (L0 m), .int .u64 (L1 m), .int .u64 (L2 m), .int .u64 (L3 m)] ∧ Own wr b7 55 #[.int .u64 (L0 n), .int .u64 (L1 n), .int .u64 (L2 n), .int .u64 (L3 n)] ∧ Own wr (w.heap.size + 1 + 1) 24 #[.int .u64 0, .int .u64 0, .int .u64 0, .int .u64 0] ∧ Below w.heap.size w wr)
  case atStart =>
    exact ⟨aa, bb, rfl, sA, sB, GH, o6, o7, OR, hW1⟩
  case round =>
    obtain ⟨m, n, hk, sm, sn, HG, O6, O7, O4, hB⟩ := hrel
    obtain ⟨P1, P2, P3⟩ := O6.at_
    obtain ⟨R1, R2, R3⟩ := O4.at_
    clear GH sA sB o6 o7 OR hW1 hW0b
    by_cases hn : n = 0
    · subst hn
      replace O7 : Own wr b7 55 #[.int .u64 0, .int .u64 0, .int .u64 0, .int .u64 0] := O7
      obtain ⟨Q1, Q2, Q3⟩ := O7.at_
      have EQ : ∀ w, (Op.equalIn 10000 55 (.agg #[.int .u64 0, .int .u64 0, .int .u64 0, .int .u64 0]) (.agg #[.int .u64 0, .int .u64 0, .int .u64 0, .int .u64 0])).run Tryd.prog w = .ok true w := fun w => (eq_size _ _ _ _ _ _ _ _ w).trans rfl
      have hmg : m = g := by
        have := HG.out
        rw [← this]
        obtain ⟨h0, _⟩ := sm
        simp
        omega
      subst hmg
      go_wp2_with (first
        | (go_at_call 43; refine (SG.out _).mono ?_; rintro e w2 ⟨rfl, hb2⟩; have O42 := O4.keep hb2; obtain ⟨U1, U2, U3⟩ := O42.at_))
      try simp only [setCell_drawn]
      refine bodyPost_ret (by simp [results, Tryd.results22, go_sem, U1]) rfl ⟨rfl, ?_⟩
      repeat' (first | (with_reducible exact Below.refl _ _) | (with_reducible assumption) | (with_reducible refine below_drewN ?_ _) | (with_reducible refine Below.drew ?_) | (with_reducible refine Below.alloc ?_ ?_ _) | (with_reducible refine Below.setCell ?_ ?_ _) | (with_reducible refine then_ ?_ (by with_reducible assumption) ?_) | (with_reducible exact Nat.le_refl _) | (with_reducible exact Nat.le_succ _) | (with_reducible exact Nat.le_succ_of_le (by with_reducible assumption)) | omega | (simp; done) | (simp; omega) | (exact Nat.le_succ _) | (exact Nat.le_succ_of_le (by with_reducible assumption)))
    · obtain ⟨Q1, Q2, Q3⟩ := O7.at_
      have hn0 : 0 < n := by obtain ⟨_, _⟩ := sn; omega
      have EQ : ∀ w, (Op.equalIn 10000 55 (.agg #[.int .u64 (L0 n), .int .u64 (L1 n), .int .u64 (L2 n), .int .u64 (L3 n)]) (.agg #[.int .u64 0, .int .u64 0, .int .u64 0, .int .u64 0])).run Tryd.prog w = .ok false w := fun w => by
        have := eq_siz sn siz0 w
        rw [decide_eq_false hn] at this
        exact this
      have DV := Lib.hid (fun w => divide_any m n sm sn hn0 w)
      obtain ⟨q, hq⟩ : ∃ x, m / n = x := ⟨_, rfl⟩
      obtain ⟨r, hr⟩ : ∃ x, m % n = x := ⟨_, rfl⟩
      rw [hq, hr] at DV
      have sr : Siz r := hr ▸ sm.mod sn hn0
      have HG2 := Lib.hid (gcd_step m n g sm.1 hn0 HG.out)
      rw [hr] at HG2
      have rn : r < n := hr ▸ Int.emod_lt_of_pos m hn0
      have r0 : 0 ≤ r := sr.1
      clear hq hr HG hn SG
      go_upto_region 4 with (first
        | (go_at_call 44; refine (DV.out _).mono ?_; rintro e w2 ⟨rfl, hb2⟩; have O62 := O6.keep hb2; have O72 := O7.keep hb2; have O42 := O4.keep hb2; have hB2 := then_ hB hb2 hB.size; clear O6 O7 O4 P1 P2 P3 Q1 Q2 Q3 R1 R2 R3))
      go_name_world W2 hW2
      have x2 : b6 < w2.heap.size := O62.in_
      have x3 : b7 < w2.heap.size := O72.in_
      have x4 := O42.in_
      have x5 := hB2.size
      have O6 : Own W2 b6 55 #[.int .u64 (L0 m), .int .u64 (L1 m), .int .u64 (L2 m), .int .u64 (L3 m)] := hW2 ▸ (by repeat' (first | (with_reducible assumption) | (with_reducible refine Own.drawnN ?_ _) | (with_reducible refine Own.drawn ?_) | (with_reducible refine Own.made_at ?_; first | rfl | (simp; done) | omega | (simp; omega)) | (with_reducible refine Own.more ?_ _) | (with_reducible refine Own.apart ?_ ?_ _ _; rotate_left; first | omega | (simp; done) | (simp; omega)) | (refine Own.put ?_ _ _)))
      have O7 : Own W2 b7 55 #[.int .u64 (L0 n), .int .u64 (L1 n), .int .u64 (L2 n), .int .u64 (L3 n)] := hW2 ▸ (by repeat' (first | (with_reducible assumption) | (with_reducible refine Own.drawnN ?_ _) | (with_reducible refine Own.drawn ?_) | (with_reducible refine Own.made_at ?_; first | rfl | (simp; done) | omega | (simp; omega)) | (with_reducible refine Own.more ?_ _) | (with_reducible refine Own.apart ?_ ?_ _ _; rotate_left; first | omega | (simp; done) | (simp; omega)) | (refine Own.put ?_ _ _)))
      have O4 : Own W2 (w.heap.size + 1 + 1) 24 #[.int .u64 0, .int .u64 0, .int .u64 0, .int .u64 0] := hW2 ▸ (by repeat' (first | (with_reducible assumption) | (with_reducible refine Own.drawnN ?_ _) | (with_reducible refine Own.drawn ?_) | (with_reducible refine Own.made_at ?_; first | rfl | (simp; done) | omega | (simp; omega)) | (with_reducible refine Own.more ?_ _) | (with_reducible refine Own.apart ?_ ?_ _ _; rotate_left; first | omega | (simp; done) | (simp; omega)) | (refine Own.put ?_ _ _)))
      have O9 : Own W2 (w2.heap.size + 1) 55 #[.int .u64 (L0 r), .int .u64 (L1 r), .int .u64 (L2 r), .int .u64 (L3 r)] := hW2 ▸ (by repeat' (first | (with_reducible assumption) | (with_reducible refine Own.drawnN ?_ _) | (with_reducible refine Own.drawn ?_) | (with_reducible refine Own.made_at ?_; first | rfl | (simp; done) | omega | (simp; omega)) | (with_reducible refine Own.more ?_ _) | (with_reducible refine Own.apart ?_ ?_ _ _; rotate_left; first | omega | (simp; done) | (simp; omega)) | (refine Own.put ?_ _ _)))
      have hW2b : Below w.heap.size w W2 := hW2 ▸ (by repeat' (first | (with_reducible exact Below.refl _ _) | (with_reducible assumption) | (with_reducible refine below_drewN ?_ _) | (with_reducible refine Below.drew ?_) | (with_reducible refine Below.alloc ?_ ?_ _) | (with_reducible refine Below.setCell ?_ ?_ _) | (with_reducible refine then_ ?_ (by with_reducible assumption) ?_) | (with_reducible exact Nat.le_refl _) | (with_reducible exact Nat.le_succ _) | (with_reducible exact Nat.le_succ_of_le (by with_reducible assumption)) | omega | (simp; done) | (simp; omega) | (exact Nat.le_succ _) | (exact Nat.le_succ_of_le (by with_reducible assumption))))
      clear hW2 O62 O72 O42 hB2 hB
      refine region_memo (B := w.heap.size) (L := .val (.agg #[.int .u64 (L0 n), .int .u64 (L1 n), .int .u64 (L2 n), .int .u64 (L3 n)]) :: .val (.agg #[.int .u64 (L0 r), .int .u64 (L1 r), .int .u64 (L2 r), .int .u64 (L3 r)]) :: .sto (b6) 55 #[.int .u64 (L0 n), .int .u64 (L1 n), .int .u64 (L2 n), .int .u64 (L3 n)] :: .sto (b7) 55 #[.int .u64 (L0 r), .int .u64 (L1 r), .int .u64 (L2 r), .int .u64 (L3 r)] :: []) (by kernel_rfl) (by kernel_rfl) (hW2b.size) (Olds.v (Olds.v (Olds.s (by omega) O6.drawn.in_ (by repeat' (first | exact trivial | refine Off.v ?_ | refine Off.k ?_ | refine Off.b ?_ | refine Off.p ?_ | refine Off.s ?_ ?_ | omega)) (Olds.s (by omega) O7.drawn.in_ (by repeat' (first | exact trivial | refine Off.v ?_ | refine Off.k ?_ | refine Off.b ?_ | refine Off.p ?_ | refine Off.s ?_ ?_ | omega)) (trivial)))))
        ⟨fun a w R => ld63 (R.slot 7 rfl) (R.old 3 rfl rfl (by kernel_rfl) O7.drawn), fun a w R => ld63 (R.slot 9 rfl) (R.keep O9.drawn (by repeat' (first | exact trivial | refine Off.v ?_ | refine Off.k ?_ | refine Off.b ?_ | refine Off.p ?_ | refine Off.s ?_ ?_ | omega))), fun a w R => so63 (R.slot 6 rfl) (R.own rfl O6.drawn) rfl (R.val 0 rfl rfl rfl (by kernel_rfl)), fun a w R => so63 (R.slot 7 rfl) (R.own rfl O7.drawn) rfl (R.val 1 rfl rfl rfl (by kernel_rfl)), trivial⟩ (fun a1 W3 I => ?_)
      rw [I.act [(23, (.agg #[.int .u64 (L0 n), .int .u64 (L1 n), .int .u64 (L2 n), .int .u64 (L3 n)])), (24, (.agg #[.int .u64 (L0 r), .int .u64 (L1 r), .int .u64 (L2 r), .int .u64 (L3 r)]))]
        ⟨I.val 0 rfl rfl rfl, I.val 1 rfl rfl rfl, trivial⟩ rfl]
      have sW3 : W2.heap.size ≤ W3.heap.size := I.below.size
      replace O4 := I.keep O4.drawn (by repeat' (first | exact trivial | refine Off.v ?_ | refine Off.k ?_ | refine Off.b ?_ | refine Off.p ?_ | refine Off.s ?_ ?_ | omega))
      replace O9 := I.keep O9.drawn (by repeat' (first | exact trivial | refine Off.v ?_ | refine Off.k ?_ | refine Off.b ?_ | refine Off.p ?_ | refine Off.s ?_ ?_ | omega))
      replace O6 := I.sto 2 rfl rfl
      replace O7 := I.sto 3 rfl rfl
      have hW3 : Below w.heap.size w W3 := hW2b.drew.trans I.below
      clear I
      simp only [List.foldl_cons, List.foldl_nil, List.setIfInBounds_toArray, List.set_cons_zero, List.set_cons_succ]
      go_wp2
      go_roundg r.toNat
      case measure => omega
      case rel => exact ⟨n, r, rfl, sn, sr, HG2, O6, O7, O4, hW3⟩
theorem gcd_siz (a b : Int) (ha : Fit a) (hb : Fit b) : Siz ((a.natAbs).gcd b.natAbs : Int) := by
  obtain ⟨_, _⟩ := ha
  obtain ⟨_, _⟩ := hb
  by_cases h : a = 0
  · subst h
    simp only [Int.natAbs_zero, Nat.gcd_zero_left]
    exact ⟨by omega, by omega⟩
  · have := Nat.gcd_le_left b.natAbs (show 0 < a.natAbs by omega)
    exact ⟨by omega, by omega⟩
theorem gcd_fit (a b : Int) (ha : Fit a) (hb : Fit b) (hc : Fit ((a.natAbs).gcd b.natAbs : Int)) (w : World) :
    Calls Tryd.prog 22 #[.agg #[.int .u64 (L0 a), .int .u64 (L1 a), .int .u64 (L2 a), .int .u64 (L3 a)], .agg #[.int .u64 (L0 b), .int .u64 (L1 b), .int .u64 (L2 b), .int .u64 (L3 b)]] w fun e w' => e = .returned (.tuple #[.agg #[.int .u64 (L0 ((a.natAbs).gcd b.natAbs : Int)), .int .u64 (L1 ((a.natAbs).gcd b.natAbs : Int)), .int .u64 (L2 ((a.natAbs).gcd b.natAbs : Int)), .int .u64 (L3 ((a.natAbs).gcd b.natAbs : Int))], .int .i64 0]) ∧ Below w.heap.size w w' :=
  Gcd_walk a b _ ha hb rfl _ _ _ _ _ (fun w => signed_fit _ _ false (gcd_siz a b ha hb) rfl hc w) w
theorem gcd_large (a b : Int) (ha : Fit a) (hb : Fit b) (hc : ¬ Fit ((a.natAbs).gcd b.natAbs : Int)) (w : World) :
    Calls Tryd.prog 22 #[.agg #[.int .u64 (L0 a), .int .u64 (L1 a), .int .u64 (L2 a), .int .u64 (L3 a)], .agg #[.int .u64 (L0 b), .int .u64 (L1 b), .int .u64 (L2 b), .int .u64 (L3 b)]] w fun e w' => e = .returned (.tuple #[.agg #[.int .u64 0, .int .u64 0, .int .u64 0, .int .u64 0], .int .i64 3]) ∧ Below w.heap.size w w' :=
  Gcd_walk a b _ ha hb rfl _ _ _ _ _ (fun w => signed_large _ _ false (gcd_siz a b ha hb) rfl hc w) w
end Go.Proofs.YtdnjkminicmffaaDoor
end
section
namespace Go.Proofs.YtdnjkminicmffaaDoor
open Go.ChangeShapes Go.WideShapes Go.ChangeAt Go.RowKit
set_option linter.unusedVariables false

theorem sgn_mul (a b : Int) : sgnZ a * sgnZ b = sgnZ (a * b) := by
  unfold sgnZ
  rcases Int.lt_trichotomy a 0 with ha | ha | ha <;> rcases Int.lt_trichotomy b 0 with hb | hb | hb
  · have := Int.mul_pos_of_neg_of_neg ha hb; repeat' split
    all_goals omega
  · subst hb; rw [Int.mul_zero]; simp
  · have := Int.mul_neg_of_neg_of_pos ha hb; repeat' split
    all_goals omega
  · subst ha; rw [Int.zero_mul]; simp
  · subst ha; rw [Int.zero_mul]; simp
  · subst ha; rw [Int.zero_mul]; simp
  · have := Int.mul_neg_of_pos_of_neg ha hb; repeat' split
    all_goals omega
  · subst hb; rw [Int.mul_zero]; simp
  · have := Int.mul_pos ha hb; repeat' split
    all_goals omega
theorem sgn_cmp (p q : Int) : (sgnZ p < sgnZ q → cmpZ p q = -1) ∧ (sgnZ q < sgnZ p → cmpZ p q = 1) ∧ (sgnZ p = sgnZ q → sgnZ p * cmpZ (p.natAbs : Int) (q.natAbs : Int) = cmpZ p q) := by
  unfold sgnZ cmpZ
  refine ⟨?_, ?_, ?_⟩ <;> (repeat' split) <;> omega
theorem sgn_range (z : Int) : -1 ≤ sgnZ z ∧ sgnZ z ≤ 1 := by unfold sgnZ; repeat' split
                                                             all_goals omega
theorem cmp_range (p q : Int) : -1 ≤ cmpZ p q ∧ cmpZ p q ≤ 1 := by unfold cmpZ; repeat' split
                                                                   all_goals omega

theorem cmpW_congr {X Y X' Y' : Nat → Int} : ∀ n : Nat, (∀ i, i < n → X i = X' i) → (∀ i, i < n → Y i = Y' i) → cmpW X Y n = cmpW X' Y' n
  | 0, _, _ => rfl
  | n + 1, h, k => by
    rw [cmpW, cmpW, h n (by omega), k n (by omega), cmpW_congr n (fun i hi => h i (by omega)) (fun i hi => k i (by omega))]
theorem cmpW_up (X Y : Nat → Int) : ∀ k : Nat, cmpW X Y (4 + k) = if cmpW (fun i => X (4 + i)) (fun i => Y (4 + i)) k = 0 then cmpW X Y 4 else cmpW (fun i => X (4 + i)) (fun i => Y (4 + i)) k
  | 0 => by simp [cmpW]
  | k + 1 => by
    rw [← Nat.add_assoc, cmpW, cmpW, cmpW_up X Y k]
    repeat' split
    all_goals first | rfl | omega | simp_all
/-- the words of a product -/
def Lg (z : Int) (i : Nat) : Int := if i < 4 then Lf z i else Lf (z / 115792089237316195423570985008687907853269984665640564039457584007913129639936) (i - 4)
theorem L_lo (z : Int) : L0 z = L0 (z % 115792089237316195423570985008687907853269984665640564039457584007913129639936) ∧ L1 z = L1 (z % 115792089237316195423570985008687907853269984665640564039457584007913129639936) ∧ L2 z = L2 (z % 115792089237316195423570985008687907853269984665640564039457584007913129639936) ∧ L3 z = L3 (z % 115792089237316195423570985008687907853269984665640564039457584007913129639936) := by
  unfold L0 L1 L2 L3; omega
theorem Lf_lo (z : Int) (i : Nat) (h : i < 4) : Lf z i = Lf (z % 115792089237316195423570985008687907853269984665640564039457584007913129639936) i := by
  obtain ⟨h0, h1, h2, h3⟩ := L_lo z
  rcases (by omega : i = 0 ∨ i = 1 ∨ i = 2 ∨ i = 3) with rfl | rfl | rfl | rfl
  · exact h0
  · exact h1
  · exact h2
  · exact h3
theorem cmp_8 {p q : Int} (hp : 0 ≤ p) (hp' : Siz (p / 115792089237316195423570985008687907853269984665640564039457584007913129639936)) (hq : 0 ≤ q) (hq' : Siz (q / 115792089237316195423570985008687907853269984665640564039457584007913129639936)) : cmpW (Lg p) (Lg q) 8 = cmpZ p q := by
  have e := cmpW_up (Lg p) (Lg q) 4
  have e1 : cmpW (fun i => Lg p (4 + i)) (fun i => Lg q (4 + i)) 4 = cmpW (Lf (p / 115792089237316195423570985008687907853269984665640564039457584007913129639936)) (Lf (q / 115792089237316195423570985008687907853269984665640564039457584007913129639936)) 4 :=
    cmpW_congr 4 (fun i hi => by simp [Lg]; omega) (fun i hi => by simp [Lg]; omega)
  have e2 : cmpW (Lg p) (Lg q) 4 = cmpW (Lf (p % 115792089237316195423570985008687907853269984665640564039457584007913129639936)) (Lf (q % 115792089237316195423570985008687907853269984665640564039457584007913129639936)) 4 :=
    cmpW_congr 4 (fun i hi => by simp only [Lg, hi, if_true]; exact Lf_lo p i hi) (fun i hi => by simp only [Lg, hi, if_true]; exact Lf_lo q i hi)
  rw [e1, e2, cmp_siz hp' hq', cmp_siz (r := p % 115792089237316195423570985008687907853269984665640564039457584007913129639936) (s := q % 115792089237316195423570985008687907853269984665640564039457584007913129639936) ⟨by omega, by omega⟩ ⟨by omega, by omega⟩] at e
  rw [show (8 : Nat) = 4 + 4 from rfl, e]
  unfold cmpZ
  repeat' split
  all_goals omega
theorem prod_hi {a b : Int} (ha : Fit a) (hb : Fit b) : 0 ≤ (a.natAbs : Int) * b.natAbs ∧ Siz ((a.natAbs : Int) * b.natAbs / 115792089237316195423570985008687907853269984665640564039457584007913129639936) :=
  ⟨Int.mul_nonneg (by omega) (by omega), L_prod_hi a b ha hb⟩

theorem en_Sign : ∀ args w, (callFunc 49 args).run Tryd.prog w = .ok (.enter 49 args) w := enter_of Tryd.func49 rfl rfl
theorem en_product : ∀ args w, (callFunc 41 args).run Tryd.prog w = .ok (.enter 41 args) w := enter_of Tryd.func41 rfl rfl

set_option maxHeartbeats 16000000 in
set_option maxRecDepth 20000 in
theorem Above_walk (a b c d : Int) (ha : Fit a) (hb : Fit b) (hc : Fit c) (hd : Fit d) (V : Int) (hV : cmpZ (a * b) (c * d) = V)
    (w : World) : Calls Tryd.prog 29 #[.agg #[.int .u64 (L0 a), .int .u64 (L1 a), .int .u64 (L2 a), .int .u64 (L3 a)], .agg #[.int .u64 (L0 b), .int .u64 (L1 b), .int .u64 (L2 b), .int .u64 (L3 b)], .agg #[.int .u64 (L0 c), .int .u64 (L1 c), .int .u64 (L2 c), .int .u64 (L3 c)], .agg #[.int .u64 (L0 d), .int .u64 (L1 d), .int .u64 (L2 d), .int .u64 (L3 d)]] w fun e w' => e = .returned (.int .i64 V) ∧ Below w.heap.size w w' := by
  have GA := Lib.hid (fun w => sign_b a ha w)
  have GB := Lib.hid (fun w => sign_b b hb w)
  have GC := Lib.hid (fun w => sign_b c hc w)
  have GD := Lib.hid (fun w => sign_b d hd w)
  have SA := Lib.hid (fun w => sizeOf_any a ha w)
  have SB := Lib.hid (fun w => sizeOf_any b hb w)
  have SC := Lib.hid (fun w => sizeOf_any c hc w)
  have SD := Lib.hid (fun w => sizeOf_any d hd w)
  obtain ⟨p, hp⟩ : ∃ x : Int, (a.natAbs : Int) * b.natAbs = x := ⟨_, rfl⟩
  obtain ⟨q, hq⟩ : ∃ x : Int, (c.natAbs : Int) * d.natAbs = x := ⟨_, rfl⟩
  have PP := Lib.hid (fun w => product_b (a.natAbs : Int) b.natAbs p (abs_siz ha) (abs_siz hb) hp.symm w)
  have PQ := Lib.hid (fun w => product_b (c.natAbs : Int) d.natAbs q (abs_siz hc) (abs_siz hd) hq.symm w)
  have CE : cmpW (Lg p) (Lg q) 8 = cmpZ p q := by
    obtain ⟨h1, h2⟩ := prod_hi ha hb
    obtain ⟨h3, h4⟩ := prod_hi hc hd
    rw [hp] at h1 h2
    rw [hq] at h3 h4
    exact cmp_8 h1 h2 h3 h4
  obtain ⟨s1, s2, s3⟩ := sgn_cmp (a * b) (c * d)
  rw [← sgn_mul, ← sgn_mul, hV] at s1 s2
  rw [← sgn_mul, ← sgn_mul, hV, Int.natAbs_mul, Int.natAbs_mul, Int.natCast_mul, Int.natCast_mul, hp, hq] at s3
  have ra := sgn_range a
  have rb := sgn_range b
  have rc := sgn_range c
  have rd := sgn_range d
  have rl : -1 ≤ sgnZ a * sgnZ b ∧ sgnZ a * sgnZ b ≤ 1 := by rw [sgn_mul]; exact sgn_range _
  have rr : -1 ≤ sgnZ c * sgnZ d ∧ sgnZ c * sgnZ d ≤ 1 := by rw [sgn_mul]; exact sgn_range _
  have rv := cmp_range p q
  obtain ⟨va, hva⟩ : ∃ x : Int, (a.natAbs : Int) = x := ⟨_, rfl⟩
  obtain ⟨vb, hvb⟩ : ∃ x : Int, (b.natAbs : Int) = x := ⟨_, rfl⟩
  obtain ⟨vc, hvc⟩ : ∃ x : Int, (c.natAbs : Int) = x := ⟨_, rfl⟩
  obtain ⟨vd, hvd⟩ : ∃ x : Int, (d.natAbs : Int) = x := ⟨_, rfl⟩
  rw [hva] at SA PP
  rw [hvb] at SB PP
  rw [hvc] at SC PQ
  rw [hvd] at SD PQ
  clear hva hvb hvc hvd hp hq
  obtain ⟨l, hl⟩ : ∃ x : Int, sgnZ a * sgnZ b = x := ⟨_, rfl⟩
  obtain ⟨r, hr⟩ : ∃ x : Int, sgnZ c * sgnZ d = x := ⟨_, rfl⟩
  rw [hl] at rl
  rw [hr] at rr
  rw [hl, hr] at s1 s2 s3
  have HM : IntKind.i64.wrap (sgnZ a * sgnZ b) = l := by rw [hl, IntKind.wrap_i64]; omega
  have HN : IntKind.i64.wrap (sgnZ c * sgnZ d) = r := by rw [hr, IntKind.wrap_i64]; omega
  have hm := Lib.hid HM
  have hn := Lib.hid HN
  clear HM HN hl hr ra rb rc rd hV ha hb hc hd
  generalize sgnZ a = ga at *
  generalize sgnZ b = gb at *
  generalize sgnZ c = gc at *
  generalize sgnZ d = gd at *
  have S1 := Lib.hid s1
  have S2 := Lib.hid s2
  have S3 := Lib.hid s3
  have CH := Lib.hid CE
  clear s1 s2 s3 CE
  go_enter Tryd.func29, Tryd.ntmps29
  go_upto_region 1 with fail
  go_name_world W0 hW0
  have OA : Own W0 w.heap.size 24 #[.int .u64 (L0 a), .int .u64 (L1 a), .int .u64 (L2 a), .int .u64 (L3 a)] := hW0 ▸ (by repeat' (first | (with_reducible assumption) | (with_reducible refine Own.drawnN ?_ _) | (with_reducible refine Own.drawn ?_) | (with_reducible refine Own.made_at ?_; first | rfl | (simp; done) | omega | (simp; omega)) | (with_reducible refine Own.more ?_ _) | (with_reducible refine Own.apart ?_ ?_ _ _; rotate_left; first | omega | (simp; done) | (simp; omega)) | (refine Own.put ?_ _ _)))
  have OB : Own W0 (w.heap.size + 1) 24 #[.int .u64 (L0 b), .int .u64 (L1 b), .int .u64 (L2 b), .int .u64 (L3 b)] := hW0 ▸ (by repeat' (first | (with_reducible assumption) | (with_reducible refine Own.drawnN ?_ _) | (with_reducible refine Own.drawn ?_) | (with_reducible refine Own.made_at ?_; first | rfl | (simp; done) | omega | (simp; omega)) | (with_reducible refine Own.more ?_ _) | (with_reducible refine Own.apart ?_ ?_ _ _; rotate_left; first | omega | (simp; done) | (simp; omega)) | (refine Own.put ?_ _ _)))
  have OC : Own W0 (w.heap.size + 1 + 1) 24 #[.int .u64 (L0 c), .int .u64 (L1 c), .int .u64 (L2 c), .int .u64 (L3 c)] := hW0 ▸ (by repeat' (first | (with_reducible assumption) | (with_reducible refine Own.drawnN ?_ _) | (with_reducible refine Own.drawn ?_) | (with_reducible refine Own.made_at ?_; first | rfl | (simp; done) | omega | (simp; omega)) | (with_reducible refine Own.more ?_ _) | (with_reducible refine Own.apart ?_ ?_ _ _; rotate_left; first | omega | (simp; done) | (simp; omega)) | (refine Own.put ?_ _ _)))
  have OD : Own W0 (w.heap.size + 1 + 1 + 1) 24 #[.int .u64 (L0 d), .int .u64 (L1 d), .int .u64 (L2 d), .int .u64 (L3 d)] := hW0 ▸ (by repeat' (first | (with_reducible assumption) | (with_reducible refine Own.drawnN ?_ _) | (with_reducible refine Own.drawn ?_) | (with_reducible refine Own.made_at ?_; first | rfl | (simp; done) | omega | (simp; omega)) | (with_reducible refine Own.more ?_ _) | (with_reducible refine Own.apart ?_ ?_ _ _; rotate_left; first | omega | (simp; done) | (simp; omega)) | (refine Own.put ?_ _ _)))
  have hW0b : Below w.heap.size w W0 := hW0 ▸ (by repeat' (first | (with_reducible exact Below.refl _ _) | (with_reducible assumption) | (with_reducible refine below_drewN ?_ _) | (with_reducible refine Below.drew ?_) | (with_reducible refine Below.alloc ?_ ?_ _) | (with_reducible refine Below.setCell ?_ ?_ _) | (with_reducible refine then_ ?_ (by with_reducible assumption) ?_) | (with_reducible exact Nat.le_refl _) | (with_reducible exact Nat.le_succ _) | (with_reducible exact Nat.le_succ_of_le (by with_reducible assumption)) | omega | (simp; done) | (simp; omega) | (exact Nat.le_succ _) | (exact Nat.le_succ_of_le (by with_reducible assumption))))
  clear hW0
  refine region_memo (B := W0.heap.size) (L := .val (.agg #[.int .u64 (L0 a), .int .u64 (L1 a), .int .u64 (L2 a), .int .u64 (L3 a)]) :: .val (.int .i64 ga) :: .val (.agg #[.int .u64 (L0 b), .int .u64 (L1 b), .int .u64 (L2 b), .int .u64 (L3 b)]) :: .val (.int .i64 gb) :: .val (.int .i64 l) :: .val (.agg #[.int .u64 (L0 c), .int .u64 (L1 c), .int .u64 (L2 c), .int .u64 (L3 c)]) :: .val (.int .i64 gc) :: .val (.agg #[.int .u64 (L0 d), .int .u64 (L1 d), .int .u64 (L2 d), .int .u64 (L3 d)]) :: .val (.int .i64 gd) :: .val (.int .i64 r) :: .val (.int .i64 l) :: .val (.int .i64 r) :: []) (by kernel_rfl) (by kernel_rfl) (Nat.le_refl _) ((by exact trivial))
    ⟨fun a w R => ld24 (R.slot 4 rfl) (R.keep OA.drawn (by repeat' (first | exact trivial | refine Off.v ?_ | refine Off.k ?_ | refine Off.b ?_ | refine Off.p ?_ | refine Off.s ?_ ?_ | omega))), fun a w R => cl1 en_Sign (R.val 0 rfl rfl rfl (by kernel_rfl)) (GA.out _), fun a w R => ld24 (R.slot 5 rfl) (R.keep OB.drawn (by repeat' (first | exact trivial | refine Off.v ?_ | refine Off.k ?_ | refine Off.b ?_ | refine Off.p ?_ | refine Off.s ?_ ?_ | omega))), fun a w R => cl1 en_Sign (R.val 2 rfl rfl rfl (by kernel_rfl)) (GB.out _), fun a w R => muli (R.val 1 rfl rfl rfl (by kernel_rfl)) (R.val 3 rfl rfl rfl (by kernel_rfl)) hm.out, fun a w R => ld24 (R.slot 6 rfl) (R.keep OC.drawn (by repeat' (first | exact trivial | refine Off.v ?_ | refine Off.k ?_ | refine Off.b ?_ | refine Off.p ?_ | refine Off.s ?_ ?_ | omega))), fun a w R => cl1 en_Sign (R.val 5 rfl rfl rfl (by kernel_rfl)) (GC.out _), fun a w R => ld24 (R.slot 7 rfl) (R.keep OD.drawn (by repeat' (first | exact trivial | refine Off.v ?_ | refine Off.k ?_ | refine Off.b ?_ | refine Off.p ?_ | refine Off.s ?_ ?_ | omega))), fun a w R => cl1 en_Sign (R.val 7 rfl rfl rfl (by kernel_rfl)) (GD.out _), fun a w R => muli (R.val 6 rfl rfl rfl (by kernel_rfl)) (R.val 8 rfl rfl rfl (by kernel_rfl)) hn.out, fun a w R => asg (R.val 4 rfl rfl rfl (by kernel_rfl)), fun a w R => asg (R.val 9 rfl rfl rfl (by kernel_rfl)), trivial⟩ (fun a1 W1 I => ?_)
  rw [I.act [(13, (.agg #[.int .u64 (L0 a), .int .u64 (L1 a), .int .u64 (L2 a), .int .u64 (L3 a)])), (14, (.int .i64 ga)), (15, (.agg #[.int .u64 (L0 b), .int .u64 (L1 b), .int .u64 (L2 b), .int .u64 (L3 b)])), (16, (.int .i64 gb)), (17, (.int .i64 l)), (18, (.agg #[.int .u64 (L0 c), .int .u64 (L1 c), .int .u64 (L2 c), .int .u64 (L3 c)])), (19, (.int .i64 gc)), (20, (.agg #[.int .u64 (L0 d), .int .u64 (L1 d), .int .u64 (L2 d), .int .u64 (L3 d)])), (21, (.int .i64 gd)), (22, (.int .i64 r)), (9, (.int .i64 l)), (10, (.int .i64 r))]
    ⟨I.val 0 rfl rfl rfl, I.val 1 rfl rfl rfl, I.val 2 rfl rfl rfl, I.val 3 rfl rfl rfl, I.val 4 rfl rfl rfl, I.val 5 rfl rfl rfl, I.val 6 rfl rfl rfl, I.val 7 rfl rfl rfl, I.val 8 rfl rfl rfl, I.val 9 rfl rfl rfl, I.val 10 rfl rfl rfl, I.val 11 rfl rfl rfl, trivial⟩ rfl]
  have sW1 : W0.heap.size ≤ W1.heap.size := I.below.size
  replace OA := I.keep OA.drawn (by repeat' (first | exact trivial | refine Off.v ?_ | refine Off.k ?_ | refine Off.b ?_ | refine Off.p ?_ | refine Off.s ?_ ?_ | omega))
  replace OB := I.keep OB.drawn (by repeat' (first | exact trivial | refine Off.v ?_ | refine Off.k ?_ | refine Off.b ?_ | refine Off.p ?_ | refine Off.s ?_ ?_ | omega))
  replace OC := I.keep OC.drawn (by repeat' (first | exact trivial | refine Off.v ?_ | refine Off.k ?_ | refine Off.b ?_ | refine Off.p ?_ | refine Off.s ?_ ?_ | omega))
  replace OD := I.keep OD.drawn (by repeat' (first | exact trivial | refine Off.v ?_ | refine Off.k ?_ | refine Off.b ?_ | refine Off.p ?_ | refine Off.s ?_ ?_ | omega))
  have hW1 : Below w.heap.size w W1 := then_ hW0b.drew I.below hW0b.size
  clear I
  simp only [List.foldl_cons, List.foldl_nil, List.setIfInBounds_toArray, List.set_cons_zero, List.set_cons_succ]
  clear GA GB GC GD hm hn
  by_cases h1 : l < r
  · have hv := S1.out h1
    subst hv
    clear S1 S2 S3 CH PP PQ SA SB SC SD OA OB OC OD
    go_wp2
    try simp only [setCell_drawn]
    refine bodyPost_ret (by simp [results, Tryd.results29, go_sem]) rfl ⟨rfl, ?_⟩
    repeat' (first | (with_reducible exact Below.refl _ _) | (with_reducible assumption) | (with_reducible refine below_drewN ?_ _) | (with_reducible refine Below.drew ?_) | (with_reducible refine Below.alloc ?_ ?_ _) | (with_reducible refine Below.setCell ?_ ?_ _) | (with_reducible refine then_ ?_ (by with_reducible assumption) ?_) | (with_reducible exact Nat.le_refl _) | (with_reducible exact Nat.le_succ _) | (with_reducible exact Nat.le_succ_of_le (by with_reducible assumption)) | omega | (simp; done) | (simp; omega) | (exact Nat.le_succ _) | (exact Nat.le_succ_of_le (by with_reducible assumption)))
  · by_cases h2 : r < l
    · have hv := S2.out h2
      subst hv
      clear S1 S2 S3 CH PP PQ SA SB SC SD OA OB OC OD
      go_wp2
      try simp only [setCell_drawn]
      refine bodyPost_ret (by simp [results, Tryd.results29, go_sem]) rfl ⟨rfl, ?_⟩
      repeat' (first | (with_reducible exact Below.refl _ _) | (with_reducible assumption) | (with_reducible refine below_drewN ?_ _) | (with_reducible refine Below.drew ?_) | (with_reducible refine Below.alloc ?_ ?_ _) | (with_reducible refine Below.setCell ?_ ?_ _) | (with_reducible refine then_ ?_ (by with_reducible assumption) ?_) | (with_reducible exact Nat.le_refl _) | (with_reducible exact Nat.le_succ _) | (with_reducible exact Nat.le_succ_of_le (by with_reducible assumption)) | omega | (simp; done) | (simp; omega) | (exact Nat.le_succ _) | (exact Nat.le_succ_of_le (by with_reducible assumption)))
    · obtain rfl : l = r := by omega
      have S := S3.out rfl
      have T := Lib.hid S
      clear S1 S2 S3 S h1 h2
      go_upto_region 6 with fail
      refine region_memo (B := W1.heap.size) (L := .val (.agg #[.int .u64 (L0 a), .int .u64 (L1 a), .int .u64 (L2 a), .int .u64 (L3 a)]) :: .val (.agg #[.int .u64 (L0 va), .int .u64 (L1 va), .int .u64 (L2 va), .int .u64 (L3 va)]) :: .val (.agg #[.int .u64 (L0 b), .int .u64 (L1 b), .int .u64 (L2 b), .int .u64 (L3 b)]) :: .val (.agg #[.int .u64 (L0 vb), .int .u64 (L1 vb), .int .u64 (L2 vb), .int .u64 (L3 vb)]) :: .val (.agg #[.int .u64 (L0 p), .int .u64 (L1 p), .int .u64 (L2 p), .int .u64 (L3 p), .int .u64 (L0 (p / 115792089237316195423570985008687907853269984665640564039457584007913129639936)), .int .u64 (L1 (p / 115792089237316195423570985008687907853269984665640564039457584007913129639936)), .int .u64 (L2 (p / 115792089237316195423570985008687907853269984665640564039457584007913129639936)), .int .u64 (L3 (p / 115792089237316195423570985008687907853269984665640564039457584007913129639936))]) :: .val (.agg #[.int .u64 (L0 c), .int .u64 (L1 c), .int .u64 (L2 c), .int .u64 (L3 c)]) :: .val (.agg #[.int .u64 (L0 vc), .int .u64 (L1 vc), .int .u64 (L2 vc), .int .u64 (L3 vc)]) :: .val (.agg #[.int .u64 (L0 d), .int .u64 (L1 d), .int .u64 (L2 d), .int .u64 (L3 d)]) :: .val (.agg #[.int .u64 (L0 vd), .int .u64 (L1 vd), .int .u64 (L2 vd), .int .u64 (L3 vd)]) :: .val (.agg #[.int .u64 (L0 q), .int .u64 (L1 q), .int .u64 (L2 q), .int .u64 (L3 q), .int .u64 (L0 (q / 115792089237316195423570985008687907853269984665640564039457584007913129639936)), .int .u64 (L1 (q / 115792089237316195423570985008687907853269984665640564039457584007913129639936)), .int .u64 (L2 (q / 115792089237316195423570985008687907853269984665640564039457584007913129639936)), .int .u64 (L3 (q / 115792089237316195423570985008687907853269984665640564039457584007913129639936))]) :: .blk 60 8 :: .blk 60 8 :: .put 11 60 #[.int .u64 (L0 p), .int .u64 (L1 p), .int .u64 (L2 p), .int .u64 (L3 p), .int .u64 (L0 (p / 115792089237316195423570985008687907853269984665640564039457584007913129639936)), .int .u64 (L1 (p / 115792089237316195423570985008687907853269984665640564039457584007913129639936)), .int .u64 (L2 (p / 115792089237316195423570985008687907853269984665640564039457584007913129639936)), .int .u64 (L3 (p / 115792089237316195423570985008687907853269984665640564039457584007913129639936))] :: .put 12 60 #[.int .u64 (L0 q), .int .u64 (L1 q), .int .u64 (L2 q), .int .u64 (L3 q), .int .u64 (L0 (q / 115792089237316195423570985008687907853269984665640564039457584007913129639936)), .int .u64 (L1 (q / 115792089237316195423570985008687907853269984665640564039457584007913129639936)), .int .u64 (L2 (q / 115792089237316195423570985008687907853269984665640564039457584007913129639936)), .int .u64 (L3 (q / 115792089237316195423570985008687907853269984665640564039457584007913129639936))] :: []) (by kernel_rfl) (by kernel_rfl) (Nat.le_refl _) ((by exact trivial))
        ⟨fun a w R => ld24 (R.slot 4 rfl) (R.keep OA.drawn (by repeat' (first | exact trivial | refine Off.v ?_ | refine Off.k ?_ | refine Off.b ?_ | refine Off.p ?_ | refine Off.s ?_ ?_ | omega))), fun a w R => cl1 en_sizeOf (R.val 0 rfl rfl rfl (by kernel_rfl)) (SA.out _), fun a w R => ld24 (R.slot 5 rfl) (R.keep OB.drawn (by repeat' (first | exact trivial | refine Off.v ?_ | refine Off.k ?_ | refine Off.b ?_ | refine Off.p ?_ | refine Off.s ?_ ?_ | omega))), fun a w R => cl1 en_sizeOf (R.val 2 rfl rfl rfl (by kernel_rfl)) (SB.out _), fun a w R => cl2 en_product (R.val 1 rfl rfl rfl (by kernel_rfl)) (R.val 3 rfl rfl rfl (by kernel_rfl)) (PP.out _), fun a w R => ld24 (R.slot 6 rfl) (R.keep OC.drawn (by repeat' (first | exact trivial | refine Off.v ?_ | refine Off.k ?_ | refine Off.b ?_ | refine Off.p ?_ | refine Off.s ?_ ?_ | omega))), fun a w R => cl1 en_sizeOf (R.val 5 rfl rfl rfl (by kernel_rfl)) (SC.out _), fun a w R => ld24 (R.slot 7 rfl) (R.keep OD.drawn (by repeat' (first | exact trivial | refine Off.v ?_ | refine Off.k ?_ | refine Off.b ?_ | refine Off.p ?_ | refine Off.s ?_ ?_ | omega))), fun a w R => cl1 en_sizeOf (R.val 7 rfl rfl rfl (by kernel_rfl)) (SD.out _), fun a w R => cl2 en_product (R.val 6 rfl rfl rfl (by kernel_rfl)) (R.val 8 rfl rfl rfl (by kernel_rfl)) (PQ.out _), fun a w R => al65, fun a w R => al65, fun a w R => sb65 (R.dep 10 rfl (by kernel_rfl)) (R.val 4 rfl rfl rfl (by kernel_rfl)), fun a w R => sb65 (R.dep 11 rfl (by kernel_rfl)) (R.val 9 rfl rfl rfl (by kernel_rfl)), trivial⟩ (fun a1 W2 I => ?_)
      obtain ⟨b11, e11, l11, o11⟩ := I.put 12 rfl rfl
      obtain ⟨b12, e12, l12, o12⟩ := I.put 13 rfl rfl
      have n11_12 := I.far 10 11 rfl rfl (by omega) rfl rfl rfl rfl e11 e12
      rw [I.act [(31, (.agg #[.int .u64 (L0 a), .int .u64 (L1 a), .int .u64 (L2 a), .int .u64 (L3 a)])), (32, (.agg #[.int .u64 (L0 va), .int .u64 (L1 va), .int .u64 (L2 va), .int .u64 (L3 va)])), (33, (.agg #[.int .u64 (L0 b), .int .u64 (L1 b), .int .u64 (L2 b), .int .u64 (L3 b)])), (34, (.agg #[.int .u64 (L0 vb), .int .u64 (L1 vb), .int .u64 (L2 vb), .int .u64 (L3 vb)])), (35, (.agg #[.int .u64 (L0 p), .int .u64 (L1 p), .int .u64 (L2 p), .int .u64 (L3 p), .int .u64 (L0 (p / 115792089237316195423570985008687907853269984665640564039457584007913129639936)), .int .u64 (L1 (p / 115792089237316195423570985008687907853269984665640564039457584007913129639936)), .int .u64 (L2 (p / 115792089237316195423570985008687907853269984665640564039457584007913129639936)), .int .u64 (L3 (p / 115792089237316195423570985008687907853269984665640564039457584007913129639936))])), (36, (.agg #[.int .u64 (L0 c), .int .u64 (L1 c), .int .u64 (L2 c), .int .u64 (L3 c)])), (37, (.agg #[.int .u64 (L0 vc), .int .u64 (L1 vc), .int .u64 (L2 vc), .int .u64 (L3 vc)])), (38, (.agg #[.int .u64 (L0 d), .int .u64 (L1 d), .int .u64 (L2 d), .int .u64 (L3 d)])), (39, (.agg #[.int .u64 (L0 vd), .int .u64 (L1 vd), .int .u64 (L2 vd), .int .u64 (L3 vd)])), (40, (.agg #[.int .u64 (L0 q), .int .u64 (L1 q), .int .u64 (L2 q), .int .u64 (L3 q), .int .u64 (L0 (q / 115792089237316195423570985008687907853269984665640564039457584007913129639936)), .int .u64 (L1 (q / 115792089237316195423570985008687907853269984665640564039457584007913129639936)), .int .u64 (L2 (q / 115792089237316195423570985008687907853269984665640564039457584007913129639936)), .int .u64 (L3 (q / 115792089237316195423570985008687907853269984665640564039457584007913129639936))])), (11, .pointer (some ⟨b11, 0, none⟩)), (12, .pointer (some ⟨b12, 0, none⟩))]
        ⟨I.val 0 rfl rfl rfl, I.val 1 rfl rfl rfl, I.val 2 rfl rfl rfl, I.val 3 rfl rfl rfl, I.val 4 rfl rfl rfl, I.val 5 rfl rfl rfl, I.val 6 rfl rfl rfl, I.val 7 rfl rfl rfl, I.val 8 rfl rfl rfl, I.val 9 rfl rfl rfl, e11, e12, trivial⟩ rfl]
      change W1.heap.size ≤ b11 at l11
      change W1.heap.size ≤ b12 at l12
      have sW2 : W1.heap.size ≤ W2.heap.size := I.below.size
      replace OA := I.keep OA.drawn (by repeat' (first | exact trivial | refine Off.v ?_ | refine Off.k ?_ | refine Off.b ?_ | refine Off.p ?_ | refine Off.s ?_ ?_ | omega))
      replace OB := I.keep OB.drawn (by repeat' (first | exact trivial | refine Off.v ?_ | refine Off.k ?_ | refine Off.b ?_ | refine Off.p ?_ | refine Off.s ?_ ?_ | omega))
      replace OC := I.keep OC.drawn (by repeat' (first | exact trivial | refine Off.v ?_ | refine Off.k ?_ | refine Off.b ?_ | refine Off.p ?_ | refine Off.s ?_ ?_ | omega))
      replace OD := I.keep OD.drawn (by repeat' (first | exact trivial | refine Off.v ?_ | refine Off.k ?_ | refine Off.b ?_ | refine Off.p ?_ | refine Off.s ?_ ?_ | omega))
      have hW2 : Below w.heap.size w W2 := then_ hW1.drew I.below hW1.size
      clear e11 e12
      clear I
      simp only [List.foldl_cons, List.foldl_nil, List.setIfInBounds_toArray, List.set_cons_zero, List.set_cons_succ]
      obtain ⟨X1, X2, X3⟩ := o11.at_
      obtain ⟨Y1, Y2, Y3⟩ := o12.at_
      have CX : ∀ i, i < 8 → W2.cell? ⟨b11, i, none⟩ = some (.int .u64 (Lg p i)) := fun i hi => by
        rw [X1]
        rcases (by omega : i = 0 ∨ i = 1 ∨ i = 2 ∨ i = 3 ∨ i = 4 ∨ i = 5 ∨ i = 6 ∨ i = 7) with rfl | rfl | rfl | rfl | rfl | rfl | rfl | rfl <;> rfl
      have CY : ∀ i, i < 8 → W2.cell? ⟨b12, i, none⟩ = some (.int .u64 (Lg q i)) := fun i hi => by
        rw [Y1]
        rcases (by omega : i = 0 ∨ i = 1 ∨ i = 2 ∨ i = 3 ∨ i = 4 ∨ i = 5 ∨ i = 6 ∨ i = 7) with rfl | rfl | rfl | rfl | rfl | rfl | rfl | rfl <;> rfl
      have CM : ∀ n, Calls Tryd.prog 50 #[.slice (some ⟨b11, 0, none⟩) 8 8, .slice (some ⟨b12, 0, none⟩) 8 8] (W2.drewN n) fun e w'' => e = .returned (.int .i64 (cmpW (Lg p) (Lg q) 8)) ∧ ∃ m, w'' = W2.drewN m := fun n =>
        Calls.quiet_of (compare_any (Lg p) (Lg q) b11 b12 8 8 8 (by decide) (W2.drewN n) CX CY)
      rw [CH.out] at CM
      have CMH := Lib.hid CM
      have TT := T.out
      obtain ⟨v, hv⟩ : ∃ x, cmpZ p q = x := ⟨_, rfl⟩
      rw [hv] at CMH rv TT
      have TH := Lib.hid TT
      have WV : IntKind.i64.wrap (l * v) = V := by
        rw [TT, IntKind.wrap_i64]
        have : -1 ≤ V ∧ V ≤ 1 := by
          rw [← TT]
          rcases (by omega : l = -1 ∨ l = 0 ∨ l = 1) with rfl | rfl | rfl <;> omega
        omega
      clear CX CY CM CH hv PP PQ SA SB SC SD OA OB OC OD X1 X2 X3 Y1 Y2 Y3 o11 o12 T TT
      go_wp2
      go_quiet ((go_at_call 50; exact CMH.out _))
      go_wp2
      try simp only [setCell_drawn]
      refine bodyPost_ret (by simp [results, Tryd.results29, go_sem]) rfl ⟨rfl, ?_⟩
      repeat' (first | (with_reducible exact Below.refl _ _) | (with_reducible assumption) | (with_reducible refine below_drewN ?_ _) | (with_reducible refine Below.drew ?_) | (with_reducible refine Below.alloc ?_ ?_ _) | (with_reducible refine Below.setCell ?_ ?_ _) | (with_reducible refine then_ ?_ (by with_reducible assumption) ?_) | (with_reducible exact Nat.le_refl _) | (with_reducible exact Nat.le_succ _) | (with_reducible exact Nat.le_succ_of_le (by with_reducible assumption)) | omega | (simp; done) | (simp; omega) | (exact Nat.le_succ _) | (exact Nat.le_succ_of_le (by with_reducible assumption)))
end Go.Proofs.YtdnjkminicmffaaDoor
end
