
/- The contract of wide.Div. Conditions: numbers that a wide.Int can be. -/
import Derived.Test.YtjmojddnedngaaaDoorRefS
import Derived.Test.YtjmojddnedngaaaDoorWideY
import Derived.Test.YtjmojddnedngaaaDoorMemoW
namespace Go.Proofs.YtjmojddnedngaaaDoor
open Go.ChangeShapes Go.WideShapes Go.ChangeAt Go.RowKit
set_option linter.unusedVariables false
set_option linter.unusedSimpArgs false

set_option maxRecDepth 20000 in
theorem div_zero (a : Int) (w : World) :
    Calls Tryd.prog 42 #[.agg #[.int .u64 (L0 a), .int .u64 (L1 a), .int .u64 (L2 a), .int .u64 (L3 a)], .agg #[.int .u64 0, .int .u64 0, .int .u64 0, .int .u64 0]] w fun e w' => e = .returned (.tuple #[.agg #[.int .u64 0, .int .u64 0, .int .u64 0, .int .u64 0], .agg #[.int .u64 0, .int .u64 0, .int .u64 0, .int .u64 0], .int .i64 4]) ∧ Below w.heap.size w w' := by
  have EQ : ∀ w, (Op.equalIn 10000 24 (.agg #[.int .u64 0, .int .u64 0, .int .u64 0, .int .u64 0]) (.agg #[.int .u64 0, .int .u64 0, .int .u64 0, .int .u64 0])).run Tryd.prog w = .ok true w := fun w => (eq_Int _ _ _ _ _ _ _ _ w).trans rfl
  go_enter Tryd.func42, Tryd.ntmps42
  go_wp2
  try simp only [setCell_drawn]
  refine bodyPost_ret (by simp [results, Tryd.results42, go_sem]) rfl ⟨rfl, ?_⟩
  repeat' (first | (with_reducible exact Below.refl _ _) | (with_reducible assumption) | (with_reducible refine below_drewN ?_ _) | (with_reducible refine Below.drew ?_) | (with_reducible refine Below.alloc ?_ ?_ _) | (with_reducible refine Below.setCell ?_ ?_ _) | (with_reducible refine then_ ?_ (by with_reducible assumption) ?_) | (with_reducible exact Nat.le_refl _) | (with_reducible exact Nat.le_succ _) | (with_reducible exact Nat.le_succ_of_le (by with_reducible assumption)) | omega | (simp; done) | (simp; omega) | (exact Nat.le_succ _) | (exact Nat.le_succ_of_le (by with_reducible assumption)))

theorem en_sizeOf : ∀ args w, (callFunc 47 args).run Tryd.prog w = .ok (.enter 47 args) w := enter_of Tryd.func47 rfl rfl
theorem en_divide : ∀ args w, (callFunc 51 args).run Tryd.prog w = .ok (.enter 51 args) w := enter_of Tryd.func51 rfl rfl
theorem en_below : ∀ args w, (callFunc 28 args).run Tryd.prog w = .ok (.enter 28 args) w := enter_of Tryd.func28 rfl rfl
theorem en_signed : ∀ args w, (callFunc 48 args).run Tryd.prog w = .ok (.enter 48 args) w := enter_of Tryd.func48 rfl rfl

set_option maxHeartbeats 16000000 in
set_option maxRecDepth 20000 in
theorem div_walk (a b q r aa bb zq zr : Int) (sa sb : Bool) (EQ : ∀ w, (Op.equalIn 10000 24 (.agg #[.int .u64 (L0 b), .int .u64 (L1 b), .int .u64 (L2 b), .int .u64 (L3 b)]) (.agg #[.int .u64 0, .int .u64 0, .int .u64 0, .int .u64 0])).run Tryd.prog w = .ok false w)
    (SA1 : ∀ w, Calls Tryd.prog 47 #[.agg #[.int .u64 (L0 a), .int .u64 (L1 a), .int .u64 (L2 a), .int .u64 (L3 a)]] w fun e w' => e = .returned (.agg #[.int .u64 (L0 aa), .int .u64 (L1 aa), .int .u64 (L2 aa), .int .u64 (L3 aa)]) ∧ Below w.heap.size w w') (SB1 : ∀ w, Calls Tryd.prog 47 #[.agg #[.int .u64 (L0 b), .int .u64 (L1 b), .int .u64 (L2 b), .int .u64 (L3 b)]] w fun e w' => e = .returned (.agg #[.int .u64 (L0 bb), .int .u64 (L1 bb), .int .u64 (L2 bb), .int .u64 (L3 bb)]) ∧ Below w.heap.size w w')
    (DV1 : ∀ w, Calls Tryd.prog 51 #[.agg #[.int .u64 (L0 aa), .int .u64 (L1 aa), .int .u64 (L2 aa), .int .u64 (L3 aa)], .agg #[.int .u64 (L0 bb), .int .u64 (L1 bb), .int .u64 (L2 bb), .int .u64 (L3 bb)]] w fun e w' => e = .returned (.tuple #[.agg #[.int .u64 (L0 q), .int .u64 (L1 q), .int .u64 (L2 q), .int .u64 (L3 q)], .agg #[.int .u64 (L0 r), .int .u64 (L1 r), .int .u64 (L2 r), .int .u64 (L3 r)]]) ∧ Below w.heap.size w w')
    (BA1 : ∀ w, Calls Tryd.prog 28 #[.agg #[.int .u64 (L0 a), .int .u64 (L1 a), .int .u64 (L2 a), .int .u64 (L3 a)]] w fun e w' => e = .returned (.bool sa) ∧ Below w.heap.size w w') (BB1 : ∀ w, Calls Tryd.prog 28 #[.agg #[.int .u64 (L0 b), .int .u64 (L1 b), .int .u64 (L2 b), .int .u64 (L3 b)]] w fun e w' => e = .returned (.bool sb) ∧ Below w.heap.size w w')
    (GQ1 : ∀ w, Calls Tryd.prog 48 #[.agg #[.int .u64 (L0 q), .int .u64 (L1 q), .int .u64 (L2 q), .int .u64 (L3 q)], .bool (!(sa == sb))] w fun e w' => e = .returned (.tuple #[.agg #[.int .u64 (L0 zq), .int .u64 (L1 zq), .int .u64 (L2 zq), .int .u64 (L3 zq)], .int .i64 0]) ∧ Below w.heap.size w w')
    (GR1 : ∀ w, Calls Tryd.prog 48 #[.agg #[.int .u64 (L0 r), .int .u64 (L1 r), .int .u64 (L2 r), .int .u64 (L3 r)], .bool sa] w fun e w' => e = .returned (.tuple #[.agg #[.int .u64 (L0 zr), .int .u64 (L1 zr), .int .u64 (L2 zr), .int .u64 (L3 zr)], .int .i64 0]) ∧ Below w.heap.size w w')
    (w : World) : Calls Tryd.prog 42 #[.agg #[.int .u64 (L0 a), .int .u64 (L1 a), .int .u64 (L2 a), .int .u64 (L3 a)], .agg #[.int .u64 (L0 b), .int .u64 (L1 b), .int .u64 (L2 b), .int .u64 (L3 b)]] w fun e w' => e = .returned (.tuple #[.agg #[.int .u64 (L0 zq), .int .u64 (L1 zq), .int .u64 (L2 zq), .int .u64 (L3 zq)], .agg #[.int .u64 (L0 zr), .int .u64 (L1 zr), .int .u64 (L2 zr), .int .u64 (L3 zr)], .int .i64 0]) ∧ Below w.heap.size w w' := by
  have SA := Lib.hid SA1
  have SB := Lib.hid SB1
  have DV := Lib.hid DV1
  have BA := Lib.hid BA1
  have BB := Lib.hid BB1
  have GQ := Lib.hid GQ1
  have GR := Lib.hid GR1
  clear GR1
  clear SA1 SB1 DV1 BA1 BB1 GQ1
  go_enter Tryd.func42, Tryd.ntmps42
  go_upto_region 3 with fail
  clear EQ
  go_name_world W0 hW0
  have OA : Own W0 w.heap.size 24 #[.int .u64 (L0 a), .int .u64 (L1 a), .int .u64 (L2 a), .int .u64 (L3 a)] := hW0 ▸ (by repeat' (first | (with_reducible assumption) | (with_reducible refine Own.drawnN ?_ _) | (with_reducible refine Own.drawn ?_) | (with_reducible refine Own.made_at ?_; first | rfl | (simp; done) | omega | (simp; omega)) | (with_reducible refine Own.more ?_ _) | (with_reducible refine Own.apart ?_ ?_ _ _; rotate_left; first | omega | (simp; done) | (simp; omega)) | (refine Own.put ?_ _ _)))
  have OB : Own W0 (w.heap.size + 1) 24 #[.int .u64 (L0 b), .int .u64 (L1 b), .int .u64 (L2 b), .int .u64 (L3 b)] := hW0 ▸ (by repeat' (first | (with_reducible assumption) | (with_reducible refine Own.drawnN ?_ _) | (with_reducible refine Own.drawn ?_) | (with_reducible refine Own.made_at ?_; first | rfl | (simp; done) | omega | (simp; omega)) | (with_reducible refine Own.more ?_ _) | (with_reducible refine Own.apart ?_ ?_ _ _; rotate_left; first | omega | (simp; done) | (simp; omega)) | (refine Own.put ?_ _ _)))
  have OR : Own W0 (w.heap.size + 1 + 1) 24 #[.int .u64 0, .int .u64 0, .int .u64 0, .int .u64 0] := hW0 ▸ (by repeat' (first | (with_reducible assumption) | (with_reducible refine Own.drawnN ?_ _) | (with_reducible refine Own.drawn ?_) | (with_reducible refine Own.made_at ?_; first | rfl | (simp; done) | omega | (simp; omega)) | (with_reducible refine Own.more ?_ _) | (with_reducible refine Own.apart ?_ ?_ _ _; rotate_left; first | omega | (simp; done) | (simp; omega)) | (refine Own.put ?_ _ _)))
  have OS : Own W0 (w.heap.size + 1 + 1 + 1) 24 #[.int .u64 0, .int .u64 0, .int .u64 0, .int .u64 0] := hW0 ▸ (by repeat' (first | (with_reducible assumption) | (with_reducible refine Own.drawnN ?_ _) | (with_reducible refine Own.drawn ?_) | (with_reducible refine Own.made_at ?_; first | rfl | (simp; done) | omega | (simp; omega)) | (with_reducible refine Own.more ?_ _) | (with_reducible refine Own.apart ?_ ?_ _ _; rotate_left; first | omega | (simp; done) | (simp; omega)) | (refine Own.put ?_ _ _)))
  have hW0b : Below w.heap.size w W0 := hW0 ▸ (by repeat' (first | (with_reducible exact Below.refl _ _) | (with_reducible assumption) | (with_reducible refine below_drewN ?_ _) | (with_reducible refine Below.drew ?_) | (with_reducible refine Below.alloc ?_ ?_ _) | (with_reducible refine Below.setCell ?_ ?_ _) | (with_reducible refine then_ ?_ (by with_reducible assumption) ?_) | (with_reducible exact Nat.le_refl _) | (with_reducible exact Nat.le_succ _) | (with_reducible exact Nat.le_succ_of_le (by with_reducible assumption)) | omega | (simp; done) | (simp; omega) | (exact Nat.le_succ _) | (exact Nat.le_succ_of_le (by with_reducible assumption))))
  clear hW0
  have hz0 := OS.in_
  refine region_memo (B := W0.heap.size) (L := .val (.agg #[.int .u64 (L0 a), .int .u64 (L1 a), .int .u64 (L2 a), .int .u64 (L3 a)]) :: .val (.agg #[.int .u64 (L0 aa), .int .u64 (L1 aa), .int .u64 (L2 aa), .int .u64 (L3 aa)]) :: .val (.agg #[.int .u64 (L0 b), .int .u64 (L1 b), .int .u64 (L2 b), .int .u64 (L3 b)]) :: .val (.agg #[.int .u64 (L0 bb), .int .u64 (L1 bb), .int .u64 (L2 bb), .int .u64 (L3 bb)]) :: .val (.tuple #[(.agg #[.int .u64 (L0 q), .int .u64 (L1 q), .int .u64 (L2 q), .int .u64 (L3 q)]), (.agg #[.int .u64 (L0 r), .int .u64 (L1 r), .int .u64 (L2 r), .int .u64 (L3 r)])]) :: .val (.tuple #[(.agg #[.int .u64 (L0 q), .int .u64 (L1 q), .int .u64 (L2 q), .int .u64 (L3 q)]), (.agg #[.int .u64 (L0 r), .int .u64 (L1 r), .int .u64 (L2 r), .int .u64 (L3 r)])]) :: .val (.agg #[.int .u64 (L0 q), .int .u64 (L1 q), .int .u64 (L2 q), .int .u64 (L3 q)]) :: .val (.agg #[.int .u64 (L0 r), .int .u64 (L1 r), .int .u64 (L2 r), .int .u64 (L3 r)]) :: .blk 58 4 :: .blk 58 4 :: .put 7 58 #[.int .u64 (L0 q), .int .u64 (L1 q), .int .u64 (L2 q), .int .u64 (L3 q)] :: .put 8 58 #[.int .u64 (L0 r), .int .u64 (L1 r), .int .u64 (L2 r), .int .u64 (L3 r)] :: []) (by kernel_rfl) (by kernel_rfl) (Nat.le_refl _) ((by exact trivial))
    ⟨fun a w R => ld24 (R.slot 2 rfl) (R.keep OA.drawn (by repeat' (first | exact trivial | refine Off.v ?_ | refine Off.k ?_ | refine Off.b ?_ | refine Off.p ?_ | refine Off.s ?_ ?_ | omega))), fun a w R => cl1 en_sizeOf (R.val 0 rfl rfl rfl (by kernel_rfl)) (SA.out _), fun a w R => ld24 (R.slot 3 rfl) (R.keep OB.drawn (by repeat' (first | exact trivial | refine Off.v ?_ | refine Off.k ?_ | refine Off.b ?_ | refine Off.p ?_ | refine Off.s ?_ ?_ | omega))), fun a w R => cl1 en_sizeOf (R.val 2 rfl rfl rfl (by kernel_rfl)) (SB.out _), fun a w R => cl2 en_divide (R.val 1 rfl rfl rfl (by kernel_rfl)) (R.val 3 rfl rfl rfl (by kernel_rfl)) (DV.out _), fun a w R => mv (R.val 4 rfl rfl rfl (by kernel_rfl)), fun a w R => ex0 (R.val 5 rfl rfl rfl (by kernel_rfl)), fun a w R => ex1 (R.val 5 rfl rfl rfl (by kernel_rfl)), fun a w R => al63, fun a w R => al63, fun a w R => sb63 (R.dep 8 rfl (by kernel_rfl)) (R.val 6 rfl rfl rfl (by kernel_rfl)), fun a w R => sb63 (R.dep 9 rfl (by kernel_rfl)) (R.val 7 rfl rfl rfl (by kernel_rfl)), trivial⟩ (fun a1 W1 I => ?_)
  obtain ⟨b7, e7, l7, o7⟩ := I.put 10 rfl rfl
  obtain ⟨b8, e8, l8, o8⟩ := I.put 11 rfl rfl
  have n7_8 := I.far 8 9 rfl rfl (by omega) rfl rfl rfl rfl e7 e8
  rw [I.act [(19, (.agg #[.int .u64 (L0 a), .int .u64 (L1 a), .int .u64 (L2 a), .int .u64 (L3 a)])), (20, (.agg #[.int .u64 (L0 aa), .int .u64 (L1 aa), .int .u64 (L2 aa), .int .u64 (L3 aa)])), (21, (.agg #[.int .u64 (L0 b), .int .u64 (L1 b), .int .u64 (L2 b), .int .u64 (L3 b)])), (22, (.agg #[.int .u64 (L0 bb), .int .u64 (L1 bb), .int .u64 (L2 bb), .int .u64 (L3 bb)])), (23, (.tuple #[(.agg #[.int .u64 (L0 q), .int .u64 (L1 q), .int .u64 (L2 q), .int .u64 (L3 q)]), (.agg #[.int .u64 (L0 r), .int .u64 (L1 r), .int .u64 (L2 r), .int .u64 (L3 r)])])), (18, (.tuple #[(.agg #[.int .u64 (L0 q), .int .u64 (L1 q), .int .u64 (L2 q), .int .u64 (L3 q)]), (.agg #[.int .u64 (L0 r), .int .u64 (L1 r), .int .u64 (L2 r), .int .u64 (L3 r)])])), (24, (.agg #[.int .u64 (L0 q), .int .u64 (L1 q), .int .u64 (L2 q), .int .u64 (L3 q)])), (25, (.agg #[.int .u64 (L0 r), .int .u64 (L1 r), .int .u64 (L2 r), .int .u64 (L3 r)])), (7, .pointer (some ⟨b7, 0, none⟩)), (8, .pointer (some ⟨b8, 0, none⟩))]
    ⟨I.val 0 rfl rfl rfl, I.val 1 rfl rfl rfl, I.val 2 rfl rfl rfl, I.val 3 rfl rfl rfl, I.val 4 rfl rfl rfl, I.val 5 rfl rfl rfl, I.val 6 rfl rfl rfl, I.val 7 rfl rfl rfl, e7, e8, trivial⟩ rfl]
  change W0.heap.size ≤ b7 at l7
  change W0.heap.size ≤ b8 at l8
  have sW1 : W0.heap.size ≤ W1.heap.size := I.below.size
  replace OA := I.keep OA.drawn (by repeat' (first | exact trivial | refine Off.v ?_ | refine Off.k ?_ | refine Off.b ?_ | refine Off.p ?_ | refine Off.s ?_ ?_ | omega))
  replace OB := I.keep OB.drawn (by repeat' (first | exact trivial | refine Off.v ?_ | refine Off.k ?_ | refine Off.b ?_ | refine Off.p ?_ | refine Off.s ?_ ?_ | omega))
  replace OR := I.keep OR.drawn (by repeat' (first | exact trivial | refine Off.v ?_ | refine Off.k ?_ | refine Off.b ?_ | refine Off.p ?_ | refine Off.s ?_ ?_ | omega))
  replace OS := I.keep OS.drawn (by repeat' (first | exact trivial | refine Off.v ?_ | refine Off.k ?_ | refine Off.b ?_ | refine Off.p ?_ | refine Off.s ?_ ?_ | omega))
  have hW1 : Below w.heap.size w W1 := then_ hW0b.drew I.below hW0b.size
  clear e7 e8
  clear I
  simp only [List.foldl_cons, List.foldl_nil, List.setIfInBounds_toArray, List.set_cons_zero, List.set_cons_succ]
  go_upto_region 4 with fail
  refine region_memo (B := W1.heap.size) (L := .val (.agg #[.int .u64 (L0 q), .int .u64 (L1 q), .int .u64 (L2 q), .int .u64 (L3 q)]) :: .val (.agg #[.int .u64 (L0 a), .int .u64 (L1 a), .int .u64 (L2 a), .int .u64 (L3 a)]) :: .val (.bool sa) :: .val (.agg #[.int .u64 (L0 b), .int .u64 (L1 b), .int .u64 (L2 b), .int .u64 (L3 b)]) :: .val (.bool sb) :: .val (.bool (!(sa == sb))) :: .val (.tuple #[(.agg #[.int .u64 (L0 zq), .int .u64 (L1 zq), .int .u64 (L2 zq), .int .u64 (L3 zq)]), (.int .i64 0)]) :: .val (.tuple #[(.agg #[.int .u64 (L0 zq), .int .u64 (L1 zq), .int .u64 (L2 zq), .int .u64 (L3 zq)]), (.int .i64 0)]) :: .val (.agg #[.int .u64 (L0 zq), .int .u64 (L1 zq), .int .u64 (L2 zq), .int .u64 (L3 zq)]) :: .val (.int .i64 0) :: .blk 24 4 :: .put 9 24 #[.int .u64 (L0 zq), .int .u64 (L1 zq), .int .u64 (L2 zq), .int .u64 (L3 zq)] :: .val (.int .i64 0) :: []) (by kernel_rfl) (by kernel_rfl) (Nat.le_refl _) ((by exact trivial))
    ⟨fun a w R => ld63 (R.slot 7 rfl) (R.keep o7.drawn (by repeat' (first | exact trivial | refine Off.v ?_ | refine Off.k ?_ | refine Off.b ?_ | refine Off.p ?_ | refine Off.s ?_ ?_ | omega))), fun a w R => ld24 (R.slot 2 rfl) (R.keep OA.drawn (by repeat' (first | exact trivial | refine Off.v ?_ | refine Off.k ?_ | refine Off.b ?_ | refine Off.p ?_ | refine Off.s ?_ ?_ | omega))), fun a w R => cl1 en_below (R.val 1 rfl rfl rfl (by kernel_rfl)) (BA.out _), fun a w R => ld24 (R.slot 3 rfl) (R.keep OB.drawn (by repeat' (first | exact trivial | refine Off.v ?_ | refine Off.k ?_ | refine Off.b ?_ | refine Off.p ?_ | refine Off.s ?_ ?_ | omega))), fun a w R => cl1 en_below (R.val 3 rfl rfl rfl (by kernel_rfl)) (BB.out _), fun a w R => neqb (R.val 2 rfl rfl rfl (by kernel_rfl)) (R.val 4 rfl rfl rfl (by kernel_rfl)), fun a w R => cl2 en_signed (R.val 0 rfl rfl rfl (by kernel_rfl)) (R.val 5 rfl rfl rfl (by kernel_rfl)) (GQ.out _), fun a w R => mv (R.val 6 rfl rfl rfl (by kernel_rfl)), fun a w R => ex0 (R.val 7 rfl rfl rfl (by kernel_rfl)), fun a w R => ex1 (R.val 7 rfl rfl rfl (by kernel_rfl)), fun a w R => al24, fun a w R => sb24 (R.dep 10 rfl (by kernel_rfl)) (R.val 8 rfl rfl rfl (by kernel_rfl)), fun a w R => asg (R.val 9 rfl rfl rfl (by kernel_rfl)), trivial⟩ (fun a1 W2 I => ?_)
  obtain ⟨b9, e9, l9, o9⟩ := I.put 11 rfl rfl
  rw [I.act [(27, (.agg #[.int .u64 (L0 q), .int .u64 (L1 q), .int .u64 (L2 q), .int .u64 (L3 q)])), (28, (.agg #[.int .u64 (L0 a), .int .u64 (L1 a), .int .u64 (L2 a), .int .u64 (L3 a)])), (29, (.bool sa)), (30, (.agg #[.int .u64 (L0 b), .int .u64 (L1 b), .int .u64 (L2 b), .int .u64 (L3 b)])), (31, (.bool sb)), (32, (.bool (!(sa == sb)))), (33, (.tuple #[(.agg #[.int .u64 (L0 zq), .int .u64 (L1 zq), .int .u64 (L2 zq), .int .u64 (L3 zq)]), (.int .i64 0)])), (26, (.tuple #[(.agg #[.int .u64 (L0 zq), .int .u64 (L1 zq), .int .u64 (L2 zq), .int .u64 (L3 zq)]), (.int .i64 0)])), (34, (.agg #[.int .u64 (L0 zq), .int .u64 (L1 zq), .int .u64 (L2 zq), .int .u64 (L3 zq)])), (35, (.int .i64 0)), (9, .pointer (some ⟨b9, 0, none⟩)), (10, (.int .i64 0))]
    ⟨I.val 0 rfl rfl rfl, I.val 1 rfl rfl rfl, I.val 2 rfl rfl rfl, I.val 3 rfl rfl rfl, I.val 4 rfl rfl rfl, I.val 5 rfl rfl rfl, I.val 6 rfl rfl rfl, I.val 7 rfl rfl rfl, I.val 8 rfl rfl rfl, I.val 9 rfl rfl rfl, e9, I.val 12 rfl rfl rfl, trivial⟩ rfl]
  change W1.heap.size ≤ b9 at l9
  have sW2 : W1.heap.size ≤ W2.heap.size := I.below.size
  replace OA := I.keep OA.drawn (by repeat' (first | exact trivial | refine Off.v ?_ | refine Off.k ?_ | refine Off.b ?_ | refine Off.p ?_ | refine Off.s ?_ ?_ | omega))
  replace OB := I.keep OB.drawn (by repeat' (first | exact trivial | refine Off.v ?_ | refine Off.k ?_ | refine Off.b ?_ | refine Off.p ?_ | refine Off.s ?_ ?_ | omega))
  replace OR := I.keep OR.drawn (by repeat' (first | exact trivial | refine Off.v ?_ | refine Off.k ?_ | refine Off.b ?_ | refine Off.p ?_ | refine Off.s ?_ ?_ | omega))
  replace OS := I.keep OS.drawn (by repeat' (first | exact trivial | refine Off.v ?_ | refine Off.k ?_ | refine Off.b ?_ | refine Off.p ?_ | refine Off.s ?_ ?_ | omega))
  replace o7 := I.keep o7.drawn (by repeat' (first | exact trivial | refine Off.v ?_ | refine Off.k ?_ | refine Off.b ?_ | refine Off.p ?_ | refine Off.s ?_ ?_ | omega))
  replace o8 := I.keep o8.drawn (by repeat' (first | exact trivial | refine Off.v ?_ | refine Off.k ?_ | refine Off.b ?_ | refine Off.p ?_ | refine Off.s ?_ ?_ | omega))
  have hW2 : Below w.heap.size w W2 := then_ hW1.drew I.below hW1.size
  clear e9
  clear I
  simp only [List.foldl_cons, List.foldl_nil, List.setIfInBounds_toArray, List.set_cons_zero, List.set_cons_succ]
  go_upto_region 7 with fail
  refine region_memo (B := W2.heap.size) (L := .val (.agg #[.int .u64 (L0 r), .int .u64 (L1 r), .int .u64 (L2 r), .int .u64 (L3 r)]) :: .val (.agg #[.int .u64 (L0 a), .int .u64 (L1 a), .int .u64 (L2 a), .int .u64 (L3 a)]) :: .val (.bool sa) :: .val (.tuple #[(.agg #[.int .u64 (L0 zr), .int .u64 (L1 zr), .int .u64 (L2 zr), .int .u64 (L3 zr)]), (.int .i64 0)]) :: .val (.tuple #[(.agg #[.int .u64 (L0 zr), .int .u64 (L1 zr), .int .u64 (L2 zr), .int .u64 (L3 zr)]), (.int .i64 0)]) :: .val (.agg #[.int .u64 (L0 zr), .int .u64 (L1 zr), .int .u64 (L2 zr), .int .u64 (L3 zr)]) :: .val (.int .i64 0) :: .blk 24 4 :: .put 11 24 #[.int .u64 (L0 zr), .int .u64 (L1 zr), .int .u64 (L2 zr), .int .u64 (L3 zr)] :: .val (.int .i64 0) :: []) (by kernel_rfl) (by kernel_rfl) (Nat.le_refl _) ((by exact trivial))
    ⟨fun a w R => ld63 (R.slot 8 rfl) (R.keep o8.drawn (by repeat' (first | exact trivial | refine Off.v ?_ | refine Off.k ?_ | refine Off.b ?_ | refine Off.p ?_ | refine Off.s ?_ ?_ | omega))), fun a w R => ld24 (R.slot 2 rfl) (R.keep OA.drawn (by repeat' (first | exact trivial | refine Off.v ?_ | refine Off.k ?_ | refine Off.b ?_ | refine Off.p ?_ | refine Off.s ?_ ?_ | omega))), fun a w R => cl1 en_below (R.val 1 rfl rfl rfl (by kernel_rfl)) (BA.out _), fun a w R => cl2 en_signed (R.val 0 rfl rfl rfl (by kernel_rfl)) (R.val 2 rfl rfl rfl (by kernel_rfl)) (GR.out _), fun a w R => mv (R.val 3 rfl rfl rfl (by kernel_rfl)), fun a w R => ex0 (R.val 4 rfl rfl rfl (by kernel_rfl)), fun a w R => ex1 (R.val 4 rfl rfl rfl (by kernel_rfl)), fun a w R => al24, fun a w R => sb24 (R.dep 7 rfl (by kernel_rfl)) (R.val 5 rfl rfl rfl (by kernel_rfl)), fun a w R => asg (R.val 6 rfl rfl rfl (by kernel_rfl)), trivial⟩ (fun a1 W3 I => ?_)
  obtain ⟨b11, e11, l11, o11⟩ := I.put 8 rfl rfl
  rw [I.act [(42, (.agg #[.int .u64 (L0 r), .int .u64 (L1 r), .int .u64 (L2 r), .int .u64 (L3 r)])), (43, (.agg #[.int .u64 (L0 a), .int .u64 (L1 a), .int .u64 (L2 a), .int .u64 (L3 a)])), (44, (.bool sa)), (45, (.tuple #[(.agg #[.int .u64 (L0 zr), .int .u64 (L1 zr), .int .u64 (L2 zr), .int .u64 (L3 zr)]), (.int .i64 0)])), (41, (.tuple #[(.agg #[.int .u64 (L0 zr), .int .u64 (L1 zr), .int .u64 (L2 zr), .int .u64 (L3 zr)]), (.int .i64 0)])), (46, (.agg #[.int .u64 (L0 zr), .int .u64 (L1 zr), .int .u64 (L2 zr), .int .u64 (L3 zr)])), (47, (.int .i64 0)), (11, .pointer (some ⟨b11, 0, none⟩)), (12, (.int .i64 0))]
    ⟨I.val 0 rfl rfl rfl, I.val 1 rfl rfl rfl, I.val 2 rfl rfl rfl, I.val 3 rfl rfl rfl, I.val 4 rfl rfl rfl, I.val 5 rfl rfl rfl, I.val 6 rfl rfl rfl, e11, I.val 9 rfl rfl rfl, trivial⟩ rfl]
  change W2.heap.size ≤ b11 at l11
  have sW3 : W2.heap.size ≤ W3.heap.size := I.below.size
  replace OA := I.keep OA.drawn (by repeat' (first | exact trivial | refine Off.v ?_ | refine Off.k ?_ | refine Off.b ?_ | refine Off.p ?_ | refine Off.s ?_ ?_ | omega))
  replace OR := I.keep OR.drawn (by repeat' (first | exact trivial | refine Off.v ?_ | refine Off.k ?_ | refine Off.b ?_ | refine Off.p ?_ | refine Off.s ?_ ?_ | omega))
  replace OS := I.keep OS.drawn (by repeat' (first | exact trivial | refine Off.v ?_ | refine Off.k ?_ | refine Off.b ?_ | refine Off.p ?_ | refine Off.s ?_ ?_ | omega))
  replace o8 := I.keep o8.drawn (by repeat' (first | exact trivial | refine Off.v ?_ | refine Off.k ?_ | refine Off.b ?_ | refine Off.p ?_ | refine Off.s ?_ ?_ | omega))
  replace o9 := I.keep o9.drawn (by repeat' (first | exact trivial | refine Off.v ?_ | refine Off.k ?_ | refine Off.b ?_ | refine Off.p ?_ | refine Off.s ?_ ?_ | omega))
  have hW3 : Below w.heap.size w W3 := then_ hW2.drew I.below hW2.size
  clear e11
  clear I
  simp only [List.foldl_cons, List.foldl_nil, List.setIfInBounds_toArray, List.set_cons_zero, List.set_cons_succ]
  go_upto_region 8 with fail
  have z0 := hW0b.size
  have z1 : W0.heap.size ≤ b9 := Nat.le_trans sW1 l9
  have z2 : W0.heap.size ≤ b11 := Nat.le_trans (Nat.le_trans sW1 sW2) l11
  refine region_memo (B := w.heap.size) (L := .val (.agg #[.int .u64 (L0 zq), .int .u64 (L1 zq), .int .u64 (L2 zq), .int .u64 (L3 zq)]) :: .val (.agg #[.int .u64 (L0 zr), .int .u64 (L1 zr), .int .u64 (L2 zr), .int .u64 (L3 zr)]) :: .sto ((w.heap.size+1+1)) 24 #[.int .u64 (L0 zq), .int .u64 (L1 zq), .int .u64 (L2 zq), .int .u64 (L3 zq)] :: .sto ((w.heap.size+1+1+1)) 24 #[.int .u64 (L0 zr), .int .u64 (L1 zr), .int .u64 (L2 zr), .int .u64 (L3 zr)] :: .val (.int .i64 0) :: []) (by kernel_rfl) (by kernel_rfl) (hW3.size) (Olds.v (Olds.v (Olds.s (by omega) OR.drawn.in_ (by repeat' (first | exact trivial | refine Off.v ?_ | refine Off.k ?_ | refine Off.b ?_ | refine Off.p ?_ | refine Off.s ?_ ?_ | omega)) (Olds.s (by omega) OS.drawn.in_ (by repeat' (first | exact trivial | refine Off.v ?_ | refine Off.k ?_ | refine Off.b ?_ | refine Off.p ?_ | refine Off.s ?_ ?_ | omega)) (Olds.v trivial)))))
    ⟨fun a w R => ld24 (R.slot 9 rfl) (R.keep o9.drawn (by repeat' (first | exact trivial | refine Off.v ?_ | refine Off.k ?_ | refine Off.b ?_ | refine Off.p ?_ | refine Off.s ?_ ?_ | omega))), fun a w R => ld24 (R.slot 11 rfl) (R.keep o11.drawn (by repeat' (first | exact trivial | refine Off.v ?_ | refine Off.k ?_ | refine Off.b ?_ | refine Off.p ?_ | refine Off.s ?_ ?_ | omega))), fun a w R => so24 (R.slot 4 rfl) (R.own rfl OR.drawn) rfl (R.val 0 rfl rfl rfl (by kernel_rfl)), fun a w R => so24 (R.slot 5 rfl) (R.own rfl OS.drawn) rfl (R.val 1 rfl rfl rfl (by kernel_rfl)), fun a w R => asc, trivial⟩ (fun a1 W4 I => ?_)
  rw [I.act [(48, (.agg #[.int .u64 (L0 zq), .int .u64 (L1 zq), .int .u64 (L2 zq), .int .u64 (L3 zq)])), (49, (.agg #[.int .u64 (L0 zr), .int .u64 (L1 zr), .int .u64 (L2 zr), .int .u64 (L3 zr)])), (6, (.int .i64 0))]
    ⟨I.val 0 rfl rfl rfl, I.val 1 rfl rfl rfl, I.val 4 rfl rfl rfl, trivial⟩ rfl]
  have sW4 : W3.heap.size ≤ W4.heap.size := I.below.size
  replace o9 := I.keep o9.drawn (by repeat' (first | exact trivial | refine Off.v ?_ | refine Off.k ?_ | refine Off.b ?_ | refine Off.p ?_ | refine Off.s ?_ ?_ | omega))
  replace o11 := I.keep o11.drawn (by repeat' (first | exact trivial | refine Off.v ?_ | refine Off.k ?_ | refine Off.b ?_ | refine Off.p ?_ | refine Off.s ?_ ?_ | omega))
  replace OR := I.sto 2 rfl rfl
  replace OS := I.sto 3 rfl rfl
  have hW4 : Below w.heap.size w W4 := hW3.drew.trans I.below
  clear I
  simp only [List.foldl_cons, List.foldl_nil, List.setIfInBounds_toArray, List.set_cons_zero, List.set_cons_succ]
  obtain ⟨R1, R2, R3⟩ := OR.at_
  obtain ⟨S1, S2, S3⟩ := OS.at_
  clear OR OS o9 o11 OA o8 SA SB DV BA BB GQ GR
  go_wp2
  try simp only [setCell_drawn]
  refine bodyPost_ret (by simp [results, Tryd.results42, go_sem, R1, S1]) rfl ⟨rfl, ?_⟩
  repeat' (first | (with_reducible exact Below.refl _ _) | (with_reducible assumption) | (with_reducible refine below_drewN ?_ _) | (with_reducible refine Below.drew ?_) | (with_reducible refine Below.alloc ?_ ?_ _) | (with_reducible refine Below.setCell ?_ ?_ _) | (with_reducible refine then_ ?_ (by with_reducible assumption) ?_) | (with_reducible exact Nat.le_refl _) | (with_reducible exact Nat.le_succ _) | (with_reducible exact Nat.le_succ_of_le (by with_reducible assumption)) | omega | (simp; done) | (simp; omega) | (exact Nat.le_succ _) | (exact Nat.le_succ_of_le (by with_reducible assumption)))
set_option maxHeartbeats 16000000 in
set_option maxRecDepth 20000 in
theorem div_over (a b q r aa bb : Int) (sa sb : Bool) (EQ : ∀ w, (Op.equalIn 10000 24 (.agg #[.int .u64 (L0 b), .int .u64 (L1 b), .int .u64 (L2 b), .int .u64 (L3 b)]) (.agg #[.int .u64 0, .int .u64 0, .int .u64 0, .int .u64 0])).run Tryd.prog w = .ok false w)
    (SA1 : ∀ w, Calls Tryd.prog 47 #[.agg #[.int .u64 (L0 a), .int .u64 (L1 a), .int .u64 (L2 a), .int .u64 (L3 a)]] w fun e w' => e = .returned (.agg #[.int .u64 (L0 aa), .int .u64 (L1 aa), .int .u64 (L2 aa), .int .u64 (L3 aa)]) ∧ Below w.heap.size w w') (SB1 : ∀ w, Calls Tryd.prog 47 #[.agg #[.int .u64 (L0 b), .int .u64 (L1 b), .int .u64 (L2 b), .int .u64 (L3 b)]] w fun e w' => e = .returned (.agg #[.int .u64 (L0 bb), .int .u64 (L1 bb), .int .u64 (L2 bb), .int .u64 (L3 bb)]) ∧ Below w.heap.size w w')
    (DV1 : ∀ w, Calls Tryd.prog 51 #[.agg #[.int .u64 (L0 aa), .int .u64 (L1 aa), .int .u64 (L2 aa), .int .u64 (L3 aa)], .agg #[.int .u64 (L0 bb), .int .u64 (L1 bb), .int .u64 (L2 bb), .int .u64 (L3 bb)]] w fun e w' => e = .returned (.tuple #[.agg #[.int .u64 (L0 q), .int .u64 (L1 q), .int .u64 (L2 q), .int .u64 (L3 q)], .agg #[.int .u64 (L0 r), .int .u64 (L1 r), .int .u64 (L2 r), .int .u64 (L3 r)]]) ∧ Below w.heap.size w w')
    (BA1 : ∀ w, Calls Tryd.prog 28 #[.agg #[.int .u64 (L0 a), .int .u64 (L1 a), .int .u64 (L2 a), .int .u64 (L3 a)]] w fun e w' => e = .returned (.bool sa) ∧ Below w.heap.size w w') (BB1 : ∀ w, Calls Tryd.prog 28 #[.agg #[.int .u64 (L0 b), .int .u64 (L1 b), .int .u64 (L2 b), .int .u64 (L3 b)]] w fun e w' => e = .returned (.bool sb) ∧ Below w.heap.size w w')
    (GQ1 : ∀ w, Calls Tryd.prog 48 #[.agg #[.int .u64 (L0 q), .int .u64 (L1 q), .int .u64 (L2 q), .int .u64 (L3 q)], .bool (!(sa == sb))] w fun e w' => e = .returned (.tuple #[.agg #[.int .u64 0, .int .u64 0, .int .u64 0, .int .u64 0], .int .i64 3]) ∧ Below w.heap.size w w')
    (w : World) : Calls Tryd.prog 42 #[.agg #[.int .u64 (L0 a), .int .u64 (L1 a), .int .u64 (L2 a), .int .u64 (L3 a)], .agg #[.int .u64 (L0 b), .int .u64 (L1 b), .int .u64 (L2 b), .int .u64 (L3 b)]] w fun e w' => e = .returned (.tuple #[.agg #[.int .u64 0, .int .u64 0, .int .u64 0, .int .u64 0], .agg #[.int .u64 0, .int .u64 0, .int .u64 0, .int .u64 0], .int .i64 3]) ∧ Below w.heap.size w w' := by
  have SA := Lib.hid SA1
  have SB := Lib.hid SB1
  have DV := Lib.hid DV1
  have BA := Lib.hid BA1
  have BB := Lib.hid BB1
  have GQ := Lib.hid GQ1
  clear SA1 SB1 DV1 BA1 BB1 GQ1
  go_enter Tryd.func42, Tryd.ntmps42
  go_upto_region 3 with fail
  clear EQ
  go_name_world W0 hW0
  have OA : Own W0 w.heap.size 24 #[.int .u64 (L0 a), .int .u64 (L1 a), .int .u64 (L2 a), .int .u64 (L3 a)] := hW0 ▸ (by repeat' (first | (with_reducible assumption) | (with_reducible refine Own.drawnN ?_ _) | (with_reducible refine Own.drawn ?_) | (with_reducible refine Own.made_at ?_; first | rfl | (simp; done) | omega | (simp; omega)) | (with_reducible refine Own.more ?_ _) | (with_reducible refine Own.apart ?_ ?_ _ _; rotate_left; first | omega | (simp; done) | (simp; omega)) | (refine Own.put ?_ _ _)))
  have OB : Own W0 (w.heap.size + 1) 24 #[.int .u64 (L0 b), .int .u64 (L1 b), .int .u64 (L2 b), .int .u64 (L3 b)] := hW0 ▸ (by repeat' (first | (with_reducible assumption) | (with_reducible refine Own.drawnN ?_ _) | (with_reducible refine Own.drawn ?_) | (with_reducible refine Own.made_at ?_; first | rfl | (simp; done) | omega | (simp; omega)) | (with_reducible refine Own.more ?_ _) | (with_reducible refine Own.apart ?_ ?_ _ _; rotate_left; first | omega | (simp; done) | (simp; omega)) | (refine Own.put ?_ _ _)))
  have OR : Own W0 (w.heap.size + 1 + 1) 24 #[.int .u64 0, .int .u64 0, .int .u64 0, .int .u64 0] := hW0 ▸ (by repeat' (first | (with_reducible assumption) | (with_reducible refine Own.drawnN ?_ _) | (with_reducible refine Own.drawn ?_) | (with_reducible refine Own.made_at ?_; first | rfl | (simp; done) | omega | (simp; omega)) | (with_reducible refine Own.more ?_ _) | (with_reducible refine Own.apart ?_ ?_ _ _; rotate_left; first | omega | (simp; done) | (simp; omega)) | (refine Own.put ?_ _ _)))
  have OS : Own W0 (w.heap.size + 1 + 1 + 1) 24 #[.int .u64 0, .int .u64 0, .int .u64 0, .int .u64 0] := hW0 ▸ (by repeat' (first | (with_reducible assumption) | (with_reducible refine Own.drawnN ?_ _) | (with_reducible refine Own.drawn ?_) | (with_reducible refine Own.made_at ?_; first | rfl | (simp; done) | omega | (simp; omega)) | (with_reducible refine Own.more ?_ _) | (with_reducible refine Own.apart ?_ ?_ _ _; rotate_left; first | omega | (simp; done) | (simp; omega)) | (refine Own.put ?_ _ _)))
  have hW0b : Below w.heap.size w W0 := hW0 ▸ (by repeat' (first | (with_reducible exact Below.refl _ _) | (with_reducible assumption) | (with_reducible refine below_drewN ?_ _) | (with_reducible refine Below.drew ?_) | (with_reducible refine Below.alloc ?_ ?_ _) | (with_reducible refine Below.setCell ?_ ?_ _) | (with_reducible refine then_ ?_ (by with_reducible assumption) ?_) | (with_reducible exact Nat.le_refl _) | (with_reducible exact Nat.le_succ _) | (with_reducible exact Nat.le_succ_of_le (by with_reducible assumption)) | omega | (simp; done) | (simp; omega) | (exact Nat.le_succ _) | (exact Nat.le_succ_of_le (by with_reducible assumption))))
  clear hW0
  have hz0 := OS.in_
  refine region_memo (B := W0.heap.size) (L := .val (.agg #[.int .u64 (L0 a), .int .u64 (L1 a), .int .u64 (L2 a), .int .u64 (L3 a)]) :: .val (.agg #[.int .u64 (L0 aa), .int .u64 (L1 aa), .int .u64 (L2 aa), .int .u64 (L3 aa)]) :: .val (.agg #[.int .u64 (L0 b), .int .u64 (L1 b), .int .u64 (L2 b), .int .u64 (L3 b)]) :: .val (.agg #[.int .u64 (L0 bb), .int .u64 (L1 bb), .int .u64 (L2 bb), .int .u64 (L3 bb)]) :: .val (.tuple #[(.agg #[.int .u64 (L0 q), .int .u64 (L1 q), .int .u64 (L2 q), .int .u64 (L3 q)]), (.agg #[.int .u64 (L0 r), .int .u64 (L1 r), .int .u64 (L2 r), .int .u64 (L3 r)])]) :: .val (.tuple #[(.agg #[.int .u64 (L0 q), .int .u64 (L1 q), .int .u64 (L2 q), .int .u64 (L3 q)]), (.agg #[.int .u64 (L0 r), .int .u64 (L1 r), .int .u64 (L2 r), .int .u64 (L3 r)])]) :: .val (.agg #[.int .u64 (L0 q), .int .u64 (L1 q), .int .u64 (L2 q), .int .u64 (L3 q)]) :: .val (.agg #[.int .u64 (L0 r), .int .u64 (L1 r), .int .u64 (L2 r), .int .u64 (L3 r)]) :: .blk 58 4 :: .blk 58 4 :: .put 7 58 #[.int .u64 (L0 q), .int .u64 (L1 q), .int .u64 (L2 q), .int .u64 (L3 q)] :: .put 8 58 #[.int .u64 (L0 r), .int .u64 (L1 r), .int .u64 (L2 r), .int .u64 (L3 r)] :: []) (by kernel_rfl) (by kernel_rfl) (Nat.le_refl _) ((by exact trivial))
    ⟨fun a w R => ld24 (R.slot 2 rfl) (R.keep OA.drawn (by repeat' (first | exact trivial | refine Off.v ?_ | refine Off.k ?_ | refine Off.b ?_ | refine Off.p ?_ | refine Off.s ?_ ?_ | omega))), fun a w R => cl1 en_sizeOf (R.val 0 rfl rfl rfl (by kernel_rfl)) (SA.out _), fun a w R => ld24 (R.slot 3 rfl) (R.keep OB.drawn (by repeat' (first | exact trivial | refine Off.v ?_ | refine Off.k ?_ | refine Off.b ?_ | refine Off.p ?_ | refine Off.s ?_ ?_ | omega))), fun a w R => cl1 en_sizeOf (R.val 2 rfl rfl rfl (by kernel_rfl)) (SB.out _), fun a w R => cl2 en_divide (R.val 1 rfl rfl rfl (by kernel_rfl)) (R.val 3 rfl rfl rfl (by kernel_rfl)) (DV.out _), fun a w R => mv (R.val 4 rfl rfl rfl (by kernel_rfl)), fun a w R => ex0 (R.val 5 rfl rfl rfl (by kernel_rfl)), fun a w R => ex1 (R.val 5 rfl rfl rfl (by kernel_rfl)), fun a w R => al63, fun a w R => al63, fun a w R => sb63 (R.dep 8 rfl (by kernel_rfl)) (R.val 6 rfl rfl rfl (by kernel_rfl)), fun a w R => sb63 (R.dep 9 rfl (by kernel_rfl)) (R.val 7 rfl rfl rfl (by kernel_rfl)), trivial⟩ (fun a1 W1 I => ?_)
  obtain ⟨b7, e7, l7, o7⟩ := I.put 10 rfl rfl
  obtain ⟨b8, e8, l8, o8⟩ := I.put 11 rfl rfl
  have n7_8 := I.far 8 9 rfl rfl (by omega) rfl rfl rfl rfl e7 e8
  rw [I.act [(19, (.agg #[.int .u64 (L0 a), .int .u64 (L1 a), .int .u64 (L2 a), .int .u64 (L3 a)])), (20, (.agg #[.int .u64 (L0 aa), .int .u64 (L1 aa), .int .u64 (L2 aa), .int .u64 (L3 aa)])), (21, (.agg #[.int .u64 (L0 b), .int .u64 (L1 b), .int .u64 (L2 b), .int .u64 (L3 b)])), (22, (.agg #[.int .u64 (L0 bb), .int .u64 (L1 bb), .int .u64 (L2 bb), .int .u64 (L3 bb)])), (23, (.tuple #[(.agg #[.int .u64 (L0 q), .int .u64 (L1 q), .int .u64 (L2 q), .int .u64 (L3 q)]), (.agg #[.int .u64 (L0 r), .int .u64 (L1 r), .int .u64 (L2 r), .int .u64 (L3 r)])])), (18, (.tuple #[(.agg #[.int .u64 (L0 q), .int .u64 (L1 q), .int .u64 (L2 q), .int .u64 (L3 q)]), (.agg #[.int .u64 (L0 r), .int .u64 (L1 r), .int .u64 (L2 r), .int .u64 (L3 r)])])), (24, (.agg #[.int .u64 (L0 q), .int .u64 (L1 q), .int .u64 (L2 q), .int .u64 (L3 q)])), (25, (.agg #[.int .u64 (L0 r), .int .u64 (L1 r), .int .u64 (L2 r), .int .u64 (L3 r)])), (7, .pointer (some ⟨b7, 0, none⟩)), (8, .pointer (some ⟨b8, 0, none⟩))]
    ⟨I.val 0 rfl rfl rfl, I.val 1 rfl rfl rfl, I.val 2 rfl rfl rfl, I.val 3 rfl rfl rfl, I.val 4 rfl rfl rfl, I.val 5 rfl rfl rfl, I.val 6 rfl rfl rfl, I.val 7 rfl rfl rfl, e7, e8, trivial⟩ rfl]
  change W0.heap.size ≤ b7 at l7
  change W0.heap.size ≤ b8 at l8
  have sW1 : W0.heap.size ≤ W1.heap.size := I.below.size
  replace OA := I.keep OA.drawn (by repeat' (first | exact trivial | refine Off.v ?_ | refine Off.k ?_ | refine Off.b ?_ | refine Off.p ?_ | refine Off.s ?_ ?_ | omega))
  replace OB := I.keep OB.drawn (by repeat' (first | exact trivial | refine Off.v ?_ | refine Off.k ?_ | refine Off.b ?_ | refine Off.p ?_ | refine Off.s ?_ ?_ | omega))
  replace OR := I.keep OR.drawn (by repeat' (first | exact trivial | refine Off.v ?_ | refine Off.k ?_ | refine Off.b ?_ | refine Off.p ?_ | refine Off.s ?_ ?_ | omega))
  replace OS := I.keep OS.drawn (by repeat' (first | exact trivial | refine Off.v ?_ | refine Off.k ?_ | refine Off.b ?_ | refine Off.p ?_ | refine Off.s ?_ ?_ | omega))
  have hW1 : Below w.heap.size w W1 := then_ hW0b.drew I.below hW0b.size
  clear e7 e8
  clear I
  simp only [List.foldl_cons, List.foldl_nil, List.setIfInBounds_toArray, List.set_cons_zero, List.set_cons_succ]
  go_upto_region 4 with fail
  refine region_memo (B := W1.heap.size) (L := .val (.agg #[.int .u64 (L0 q), .int .u64 (L1 q), .int .u64 (L2 q), .int .u64 (L3 q)]) :: .val (.agg #[.int .u64 (L0 a), .int .u64 (L1 a), .int .u64 (L2 a), .int .u64 (L3 a)]) :: .val (.bool sa) :: .val (.agg #[.int .u64 (L0 b), .int .u64 (L1 b), .int .u64 (L2 b), .int .u64 (L3 b)]) :: .val (.bool sb) :: .val (.bool (!(sa == sb))) :: .val (.tuple #[(.agg #[.int .u64 0, .int .u64 0, .int .u64 0, .int .u64 0]), (.int .i64 3)]) :: .val (.tuple #[(.agg #[.int .u64 0, .int .u64 0, .int .u64 0, .int .u64 0]), (.int .i64 3)]) :: .val (.agg #[.int .u64 0, .int .u64 0, .int .u64 0, .int .u64 0]) :: .val (.int .i64 3) :: .blk 24 4 :: .put 9 24 #[.int .u64 0, .int .u64 0, .int .u64 0, .int .u64 0] :: .val (.int .i64 3) :: []) (by kernel_rfl) (by kernel_rfl) (Nat.le_refl _) ((by exact trivial))
    ⟨fun a w R => ld63 (R.slot 7 rfl) (R.keep o7.drawn (by repeat' (first | exact trivial | refine Off.v ?_ | refine Off.k ?_ | refine Off.b ?_ | refine Off.p ?_ | refine Off.s ?_ ?_ | omega))), fun a w R => ld24 (R.slot 2 rfl) (R.keep OA.drawn (by repeat' (first | exact trivial | refine Off.v ?_ | refine Off.k ?_ | refine Off.b ?_ | refine Off.p ?_ | refine Off.s ?_ ?_ | omega))), fun a w R => cl1 en_below (R.val 1 rfl rfl rfl (by kernel_rfl)) (BA.out _), fun a w R => ld24 (R.slot 3 rfl) (R.keep OB.drawn (by repeat' (first | exact trivial | refine Off.v ?_ | refine Off.k ?_ | refine Off.b ?_ | refine Off.p ?_ | refine Off.s ?_ ?_ | omega))), fun a w R => cl1 en_below (R.val 3 rfl rfl rfl (by kernel_rfl)) (BB.out _), fun a w R => neqb (R.val 2 rfl rfl rfl (by kernel_rfl)) (R.val 4 rfl rfl rfl (by kernel_rfl)), fun a w R => cl2 en_signed (R.val 0 rfl rfl rfl (by kernel_rfl)) (R.val 5 rfl rfl rfl (by kernel_rfl)) (GQ.out _), fun a w R => mv (R.val 6 rfl rfl rfl (by kernel_rfl)), fun a w R => ex0 (R.val 7 rfl rfl rfl (by kernel_rfl)), fun a w R => ex1 (R.val 7 rfl rfl rfl (by kernel_rfl)), fun a w R => al24, fun a w R => sb24 (R.dep 10 rfl (by kernel_rfl)) (R.val 8 rfl rfl rfl (by kernel_rfl)), fun a w R => asg (R.val 9 rfl rfl rfl (by kernel_rfl)), trivial⟩ (fun a1 W2 I => ?_)
  obtain ⟨b9, e9, l9, o9⟩ := I.put 11 rfl rfl
  rw [I.act [(27, (.agg #[.int .u64 (L0 q), .int .u64 (L1 q), .int .u64 (L2 q), .int .u64 (L3 q)])), (28, (.agg #[.int .u64 (L0 a), .int .u64 (L1 a), .int .u64 (L2 a), .int .u64 (L3 a)])), (29, (.bool sa)), (30, (.agg #[.int .u64 (L0 b), .int .u64 (L1 b), .int .u64 (L2 b), .int .u64 (L3 b)])), (31, (.bool sb)), (32, (.bool (!(sa == sb)))), (33, (.tuple #[(.agg #[.int .u64 0, .int .u64 0, .int .u64 0, .int .u64 0]), (.int .i64 3)])), (26, (.tuple #[(.agg #[.int .u64 0, .int .u64 0, .int .u64 0, .int .u64 0]), (.int .i64 3)])), (34, (.agg #[.int .u64 0, .int .u64 0, .int .u64 0, .int .u64 0])), (35, (.int .i64 3)), (9, .pointer (some ⟨b9, 0, none⟩)), (10, (.int .i64 3))]
    ⟨I.val 0 rfl rfl rfl, I.val 1 rfl rfl rfl, I.val 2 rfl rfl rfl, I.val 3 rfl rfl rfl, I.val 4 rfl rfl rfl, I.val 5 rfl rfl rfl, I.val 6 rfl rfl rfl, I.val 7 rfl rfl rfl, I.val 8 rfl rfl rfl, I.val 9 rfl rfl rfl, e9, I.val 12 rfl rfl rfl, trivial⟩ rfl]
  change W1.heap.size ≤ b9 at l9
  have sW2 : W1.heap.size ≤ W2.heap.size := I.below.size
  replace OA := I.keep OA.drawn (by repeat' (first | exact trivial | refine Off.v ?_ | refine Off.k ?_ | refine Off.b ?_ | refine Off.p ?_ | refine Off.s ?_ ?_ | omega))
  replace OB := I.keep OB.drawn (by repeat' (first | exact trivial | refine Off.v ?_ | refine Off.k ?_ | refine Off.b ?_ | refine Off.p ?_ | refine Off.s ?_ ?_ | omega))
  replace OR := I.keep OR.drawn (by repeat' (first | exact trivial | refine Off.v ?_ | refine Off.k ?_ | refine Off.b ?_ | refine Off.p ?_ | refine Off.s ?_ ?_ | omega))
  replace OS := I.keep OS.drawn (by repeat' (first | exact trivial | refine Off.v ?_ | refine Off.k ?_ | refine Off.b ?_ | refine Off.p ?_ | refine Off.s ?_ ?_ | omega))
  replace o7 := I.keep o7.drawn (by repeat' (first | exact trivial | refine Off.v ?_ | refine Off.k ?_ | refine Off.b ?_ | refine Off.p ?_ | refine Off.s ?_ ?_ | omega))
  replace o8 := I.keep o8.drawn (by repeat' (first | exact trivial | refine Off.v ?_ | refine Off.k ?_ | refine Off.b ?_ | refine Off.p ?_ | refine Off.s ?_ ?_ | omega))
  have hW2 : Below w.heap.size w W2 := then_ hW1.drew I.below hW1.size
  clear e9
  clear I
  simp only [List.foldl_cons, List.foldl_nil, List.setIfInBounds_toArray, List.set_cons_zero, List.set_cons_succ]
  obtain ⟨R1, R2, R3⟩ := OR.at_
  obtain ⟨S1, S2, S3⟩ := OS.at_
  go_wp2
  try simp only [setCell_drawn]
  refine bodyPost_ret (by simp [results, Tryd.results42, go_sem, R1, S1]) rfl ⟨rfl, ?_⟩
  repeat' (first | (with_reducible exact Below.refl _ _) | (with_reducible assumption) | (with_reducible refine below_drewN ?_ _) | (with_reducible refine Below.drew ?_) | (with_reducible refine Below.alloc ?_ ?_ _) | (with_reducible refine Below.setCell ?_ ?_ _) | (with_reducible refine then_ ?_ (by with_reducible assumption) ?_) | (with_reducible exact Nat.le_refl _) | (with_reducible exact Nat.le_succ _) | (with_reducible exact Nat.le_succ_of_le (by with_reducible assumption)) | omega | (simp; done) | (simp; omega) | (exact Nat.le_succ _) | (exact Nat.le_succ_of_le (by with_reducible assumption)))

theorem tdiv_abs (a b : Int) : a.tdiv b = if (!(decide (a < 0) == decide (b < 0))) = true then 0 - (a.natAbs : Int) / b.natAbs else (a.natAbs : Int) / b.natAbs := by
  rcases Int.natAbs_eq a with ha | ha <;> rcases Int.natAbs_eq b with hb | hb <;> (
    generalize a.natAbs = m at *
    generalize b.natAbs = n at *
    subst ha hb
    simp only [Int.neg_tdiv, Int.tdiv_neg, Int.neg_neg, ← Int.ofNat_tdiv]
    rcases Nat.eq_zero_or_pos m with rfl | hm <;> rcases Nat.eq_zero_or_pos n with rfl | hn <;> simp <;> omega)
theorem tmod_abs (a b : Int) : a.tmod b = if decide (a < 0) = true then 0 - (a.natAbs : Int) % b.natAbs else (a.natAbs : Int) % b.natAbs := by
  rcases Int.natAbs_eq a with ha | ha <;> rcases Int.natAbs_eq b with hb | hb <;> (
    generalize a.natAbs = m at *
    generalize b.natAbs = n at *
    subst ha hb
    simp only [Int.neg_tmod, Int.tmod_neg, Int.neg_neg, ← Int.ofNat_tmod]
    rcases Nat.eq_zero_or_pos m with rfl | hm <;> rcases Nat.eq_zero_or_pos n with rfl | hn <;> simp <;> omega)
theorem quo_siz {a b : Int} (ha : Fit a) : Siz ((a.natAbs : Int) / b.natAbs) := by
  obtain ⟨_, _⟩ := ha
  have h1 := Int.ediv_le_self (b.natAbs : Int) (show (0 : Int) ≤ a.natAbs by omega)
  have h2 := Int.ediv_nonneg (show (0 : Int) ≤ a.natAbs by omega) (show (0 : Int) ≤ b.natAbs by omega)
  exact ⟨h2, by omega⟩
theorem rest_fit {a b : Int} (hb : Fit b) (h : b ≠ 0) : Siz ((a.natAbs : Int) % b.natAbs) ∧ Fit ((a.natAbs : Int) % b.natAbs) ∧ Fit (0 - (a.natAbs : Int) % b.natAbs) := by
  obtain ⟨_, _⟩ := hb
  have h1 := Int.emod_nonneg (a.natAbs : Int) (show (b.natAbs : Int) ≠ 0 by omega)
  have h2 := Int.emod_lt_of_pos (a.natAbs : Int) (show (0 : Int) < b.natAbs by omega)
  exact ⟨⟨by omega, by omega⟩, ⟨by omega, by omega⟩, ⟨by omega, by omega⟩⟩
theorem tmod_fit {a b : Int} (hb : Fit b) (h : b ≠ 0) : Fit (a.tmod b) := by
  rw [tmod_abs]
  obtain ⟨_, h1, h2⟩ := rest_fit (a := a) hb h
  split <;> assumption
theorem abs_siz {a : Int} (ha : Fit a) : Siz (a.natAbs : Int) := by
  obtain ⟨_, _⟩ := ha
  exact ⟨by omega, by omega⟩
theorem eq_no {b : Int} (hb : Fit b) (h : b ≠ 0) (w : World) : (Op.equalIn 10000 24 (.agg #[.int .u64 (L0 b), .int .u64 (L1 b), .int .u64 (L2 b), .int .u64 (L3 b)]) (.agg #[.int .u64 0, .int .u64 0, .int .u64 0, .int .u64 0])).run Tryd.prog w = .ok false w := by
  have := eq_fit hb fit0 w
  rw [decide_eq_false h] at this
  exact this
theorem div_fit (a b : Int) (ha : Fit a) (hb : Fit b) (h : b ≠ 0) (hc : Fit (a.tdiv b)) (w : World) :
    Calls Tryd.prog 42 #[.agg #[.int .u64 (L0 a), .int .u64 (L1 a), .int .u64 (L2 a), .int .u64 (L3 a)], .agg #[.int .u64 (L0 b), .int .u64 (L1 b), .int .u64 (L2 b), .int .u64 (L3 b)]] w fun e w' => e = .returned (.tuple #[.agg #[.int .u64 (L0 (a.tdiv b)), .int .u64 (L1 (a.tdiv b)), .int .u64 (L2 (a.tdiv b)), .int .u64 (L3 (a.tdiv b))], .agg #[.int .u64 (L0 (a.tmod b)), .int .u64 (L1 (a.tmod b)), .int .u64 (L2 (a.tmod b)), .int .u64 (L3 (a.tmod b))], .int .i64 0]) ∧ Below w.heap.size w w' :=
  div_walk a b ((a.natAbs : Int) / b.natAbs) ((a.natAbs : Int) % b.natAbs) _ _ (a.tdiv b) (a.tmod b) _ _ (eq_no hb h) (sizeOf_any a ha) (sizeOf_any b hb)
    (divide_any _ _ (abs_siz ha) (abs_siz hb) (by omega)) (below_o (ngB_fit ha)) (below_o (ngB_fit hb)) (signed_fit _ _ _ (quo_siz ha) (tdiv_abs a b) hc)
    (signed_fit _ _ _ (rest_fit hb h).1 (tmod_abs a b) (tmod_fit hb h)) w
theorem div_large (a b : Int) (ha : Fit a) (hb : Fit b) (h : b ≠ 0) (hc : ¬ Fit (a.tdiv b)) (w : World) :
    Calls Tryd.prog 42 #[.agg #[.int .u64 (L0 a), .int .u64 (L1 a), .int .u64 (L2 a), .int .u64 (L3 a)], .agg #[.int .u64 (L0 b), .int .u64 (L1 b), .int .u64 (L2 b), .int .u64 (L3 b)]] w fun e w' => e = .returned (.tuple #[.agg #[.int .u64 0, .int .u64 0, .int .u64 0, .int .u64 0], .agg #[.int .u64 0, .int .u64 0, .int .u64 0, .int .u64 0], .int .i64 3]) ∧ Below w.heap.size w w' :=
  div_over a b ((a.natAbs : Int) / b.natAbs) ((a.natAbs : Int) % b.natAbs) _ _ _ _ (eq_no hb h) (sizeOf_any a ha) (sizeOf_any b hb)
    (divide_any _ _ (abs_siz ha) (abs_siz hb) (by omega)) (below_o (ngB_fit ha)) (below_o (ngB_fit hb)) (signed_large _ _ _ (quo_siz ha) (tdiv_abs a b) hc) w
end Go.Proofs.YtjmojddnedngaaaDoor
