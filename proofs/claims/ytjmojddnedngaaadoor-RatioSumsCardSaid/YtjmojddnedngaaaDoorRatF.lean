
/- Sign and Floor of right fractions, Text of one, and the awake of stage 4's laws; written by auto_ratio4.py. Conditions: those that each theorem names. -/
import Derived.Test.YtjmojddnedngaaaDoorRatB
import Derived.Test.YtjmojddnedngaaaDoorWideT
namespace Go.Proofs.YtjmojddnedngaaaDoor
open Go.ChangeShapes Go.WideShapes Go.ChangeAt Go.RowKit
set_option linter.unusedVariables false
set_option linter.unusedSimpArgs false

section
variable {a : Act} {w w0 : World} {af : Array Edge} {pos : String} {t : TypeId} {gd : Option (Nat × Bool)}
theorem sadd_tk {s d : Nat} {x y z : ByteArray} (h : a.tmps[s]? = some (.string x)) (hz : x ++ y = z) (hl : x.size + y.size ≤ 9223372036854775807) :
    Step Tryd.prog w0 { dst := some d, op := .binOp .add 9 (.tmp s) (.const (.string y)) 9, type := t, pos := pos, after := af, guard := gd } (.val (.string z)) a w :=
  .inl (by subst hz; simp [go_sem, execOp, h, hl])
theorem sadd_tt {s s' d : Nat} {x y z : ByteArray} (h : a.tmps[s]? = some (.string x)) (h' : a.tmps[s']? = some (.string y)) (hz : x ++ y = z) (hl : x.size + y.size ≤ 9223372036854775807) :
    Step Tryd.prog w0 { dst := some d, op := .binOp .add 9 (.tmp s) (.tmp s') 9, type := t, pos := pos, after := af, guard := gd } (.val (.string z)) a w :=
  .inl (by subst hz; simp [go_sem, execOp, h, h', hl])
end
set_option maxHeartbeats 16000000 in
set_option maxRecDepth 20000 in
theorem RSign_in {n d : Int} (hn : Fit n) (hd : Fit d) (ra0 : Rgt n d) (w : World) : Calls Tryd.prog 23 #[.agg #[.int .u64 (L0 n), .int .u64 (L1 n), .int .u64 (L2 n), .int .u64 (L3 n), .int .u64 (L0 d), .int .u64 (L1 d), .int .u64 (L2 d), .int .u64 (L3 d)]] w fun e w' => e = .returned (.int .i64 (sgnZ n)) ∧ Below w.heap.size w w' := by
  have ra := Lib.hid (decide_eq_true ra0)
  clear ra0
  go_enter Tryd.func23, Tryd.ntmps23
  go_upto_region 1 with fail
  go_name_world W0 hW0e
  have ow1 : Own W0 w.heap.size 26 #[.int .u64 (L0 n), .int .u64 (L1 n), .int .u64 (L2 n), .int .u64 (L3 n), .int .u64 (L0 d), .int .u64 (L1 d), .int .u64 (L2 d), .int .u64 (L3 d)] := hW0e ▸ (by repeat' (first | (with_reducible assumption) | (with_reducible refine Own.drawnN ?_ _) | (with_reducible refine Own.drawn ?_) | (with_reducible refine Own.made_at ?_; first | rfl | (simp; done) | omega | (simp; omega)) | (with_reducible refine Own.more ?_ _) | (with_reducible refine Own.apart ?_ ?_ _ _; rotate_left; first | omega | (simp; done) | (simp; omega)) | (refine Own.put ?_ _ _)))
  have hW0 : Below w.heap.size w W0 := hW0e ▸ (by repeat' (first | (with_reducible exact Below.refl _ _) | (with_reducible assumption) | (with_reducible refine below_drewN ?_ _) | (with_reducible refine Below.drew ?_) | (with_reducible refine Below.alloc ?_ ?_ _) | (with_reducible refine Below.setCell ?_ ?_ _) | (with_reducible refine then_ ?_ (by with_reducible assumption) ?_) | (with_reducible exact Nat.le_refl _) | (with_reducible exact Nat.le_succ _) | (with_reducible exact Nat.le_succ_of_le (by with_reducible assumption)) | omega | (simp; done) | (simp; omega) | (exact Nat.le_succ _) | (exact Nat.le_succ_of_le (by with_reducible assumption))))
  clear hW0e
  have z0 := ow1.in_
  go_upto_region 1 with fail
  refine region_memo_f (B := W0.heap.size) (L := .val (.agg #[.int .u64 (L0 n), .int .u64 (L1 n), .int .u64 (L2 n), .int .u64 (L3 n), .int .u64 (L0 d), .int .u64 (L1 d), .int .u64 (L2 d), .int .u64 (L3 d)]) :: .val (.bool true) :: .val (.bool false) :: []) (by kernel_rfl) (Nat.le_refl _) ((by exact trivial))
    ⟨fun a w R => ld_R (R.slot 1 rfl) (R.keep ow1 trivial) rfl rfl rfl rfl rfl rfl rfl rfl, fun a w R => cl_t (enter_at Tryd.func43) (R.val 0) (Right_is hn hd ra.out _), fun a w R => notb (R.val 1), trivial⟩ (fun act_ W1 I => ?_)
  rw [I.act [(3, .agg #[.int .u64 (L0 n), .int .u64 (L1 n), .int .u64 (L2 n), .int .u64 (L3 n), .int .u64 (L0 d), .int .u64 (L1 d), .int .u64 (L2 d), .int .u64 (L3 d)]), (4, .bool true), (5, .bool false)]
    ⟨I.val 0, I.val 1, I.val 2, trivial⟩ rfl]
  have sW1 : W0.heap.size ≤ W1.heap.size := I.below.size
  replace ow1 := I.keep ow1 trivial
  have hW1 : Below w.heap.size w W1 := then_ hW0 I.below hW0.size
  clear I
  simp only [List.foldl_cons, List.foldl_nil, List.setIfInBounds_toArray, List.set_cons_zero, List.set_cons_succ]
  go_upto_region 3 with fail
  refine region_memo_f (B := W1.heap.size) (L := .val (.pointer (some ⟨w.heap.size, 0, none⟩)) :: .val (.agg #[.int .u64 (L0 n), .int .u64 (L1 n), .int .u64 (L2 n), .int .u64 (L3 n)]) :: .val (.int .i64 (sgnZ n)) :: .val (.int .i64 (sgnZ n)) :: []) (by kernel_rfl) (Nat.le_refl _) ((by exact trivial))
    ⟨fun a w R => fa_R_0 (R.slot 1 rfl), fun a w R => ld_W (R.val 0) (R.keep ow1 trivial) rfl rfl rfl rfl, fun a w R => cl_t (enter_at Tryd.func40) (R.val 1) (sign_b _ hn _), fun a w R => asg (R.val 2), trivial⟩ (fun act_ W2 I => ?_)
  rw [I.act [(6, .pointer (some ⟨w.heap.size, 0, none⟩)), (7, .agg #[.int .u64 (L0 n), .int .u64 (L1 n), .int .u64 (L2 n), .int .u64 (L3 n)]), (8, .int .i64 (sgnZ n)), (2, .int .i64 (sgnZ n))]
    ⟨I.val 0, I.val 1, I.val 2, I.val 3, trivial⟩ rfl]
  have sW2 : W1.heap.size ≤ W2.heap.size := I.below.size
  replace ow1 := I.keep ow1 trivial
  have hW2 : Below w.heap.size w W2 := then_ hW1 I.below hW1.size
  clear I
  simp only [List.foldl_cons, List.foldl_nil, List.setIfInBounds_toArray, List.set_cons_zero, List.set_cons_succ]
  clear ow1
  go_wp2
  try simp only [setCell_drawn]
  refine bodyPost_ret (by first | (simp [results, Tryd.results23, go_sem]; done) | (simp [results, Tryd.results23, go_sem]; rfl)) rfl ⟨?_, hW2⟩
  rfl
set_option maxHeartbeats 16000000 in
set_option maxRecDepth 20000 in
theorem RFloor_neg {n d q r : Int} (hn : Fit n) (hd : Fit d) (ra0 : Rgt n d) (hq : Fit q) (hr : Fit r) (hq1 : Fit (q - 1)) (hs0 : decide (sgnZ r < 0) = true) (HD0 : ∀ w, Calls Tryd.prog 42 #[.agg #[.int .u64 (L0 n), .int .u64 (L1 n), .int .u64 (L2 n), .int .u64 (L3 n)], .agg #[.int .u64 (L0 d), .int .u64 (L1 d), .int .u64 (L2 d), .int .u64 (L3 d)]] w fun e w' => e = .returned (.tuple #[.agg #[.int .u64 (L0 q), .int .u64 (L1 q), .int .u64 (L2 q), .int .u64 (L3 q)], .agg #[.int .u64 (L0 r), .int .u64 (L1 r), .int .u64 (L2 r), .int .u64 (L3 r)], .int .i64 0]) ∧ Below w.heap.size w w') (w : World) : Calls Tryd.prog 22 #[.agg #[.int .u64 (L0 n), .int .u64 (L1 n), .int .u64 (L2 n), .int .u64 (L3 n), .int .u64 (L0 d), .int .u64 (L1 d), .int .u64 (L2 d), .int .u64 (L3 d)]] w fun e w' => e = .returned (.agg #[.int .u64 (L0 (q - 1)), .int .u64 (L1 (q - 1)), .int .u64 (L2 (q - 1)), .int .u64 (L3 (q - 1))]) ∧ Below w.heap.size w w' := by
  have ra := Lib.hid (decide_eq_true ra0)
  have hs := Lib.hid hs0
  have HD := Lib.hid HD0
  clear ra0 hs0 HD0
  go_enter Tryd.func22, Tryd.ntmps22
  go_upto_region 1 with fail
  go_name_world W0 hW0e
  have ow1 : Own W0 w.heap.size 26 #[.int .u64 (L0 n), .int .u64 (L1 n), .int .u64 (L2 n), .int .u64 (L3 n), .int .u64 (L0 d), .int .u64 (L1 d), .int .u64 (L2 d), .int .u64 (L3 d)] := hW0e ▸ (by repeat' (first | (with_reducible assumption) | (with_reducible refine Own.drawnN ?_ _) | (with_reducible refine Own.drawn ?_) | (with_reducible refine Own.made_at ?_; first | rfl | (simp; done) | omega | (simp; omega)) | (with_reducible refine Own.more ?_ _) | (with_reducible refine Own.apart ?_ ?_ _ _; rotate_left; first | omega | (simp; done) | (simp; omega)) | (refine Own.put ?_ _ _)))
  have ow2 : Own W0 (w.heap.size + 1) 24 #[.int .u64 0, .int .u64 0, .int .u64 0, .int .u64 0] := hW0e ▸ (by repeat' (first | (with_reducible assumption) | (with_reducible refine Own.drawnN ?_ _) | (with_reducible refine Own.drawn ?_) | (with_reducible refine Own.made_at ?_; first | rfl | (simp; done) | omega | (simp; omega)) | (with_reducible refine Own.more ?_ _) | (with_reducible refine Own.apart ?_ ?_ _ _; rotate_left; first | omega | (simp; done) | (simp; omega)) | (refine Own.put ?_ _ _)))
  have hW0 : Below w.heap.size w W0 := hW0e ▸ (by repeat' (first | (with_reducible exact Below.refl _ _) | (with_reducible assumption) | (with_reducible refine below_drewN ?_ _) | (with_reducible refine Below.drew ?_) | (with_reducible refine Below.alloc ?_ ?_ _) | (with_reducible refine Below.setCell ?_ ?_ _) | (with_reducible refine then_ ?_ (by with_reducible assumption) ?_) | (with_reducible exact Nat.le_refl _) | (with_reducible exact Nat.le_succ _) | (with_reducible exact Nat.le_succ_of_le (by with_reducible assumption)) | omega | (simp; done) | (simp; omega) | (exact Nat.le_succ _) | (exact Nat.le_succ_of_le (by with_reducible assumption))))
  clear hW0e
  have z0 := ow2.in_
  go_upto_region 1 with fail
  refine region_memo_f (B := W0.heap.size) (L := .val (.agg #[.int .u64 (L0 n), .int .u64 (L1 n), .int .u64 (L2 n), .int .u64 (L3 n), .int .u64 (L0 d), .int .u64 (L1 d), .int .u64 (L2 d), .int .u64 (L3 d)]) :: .val (.bool true) :: .val (.bool false) :: []) (by kernel_rfl) (Nat.le_refl _) ((by exact trivial))
    ⟨fun a w R => ld_R (R.slot 1 rfl) (R.keep ow1 trivial) rfl rfl rfl rfl rfl rfl rfl rfl, fun a w R => cl_t (enter_at Tryd.func43) (R.val 0) (Right_is hn hd ra.out _), fun a w R => notb (R.val 1), trivial⟩ (fun act_ W1 I => ?_)
  rw [I.act [(6, .agg #[.int .u64 (L0 n), .int .u64 (L1 n), .int .u64 (L2 n), .int .u64 (L3 n), .int .u64 (L0 d), .int .u64 (L1 d), .int .u64 (L2 d), .int .u64 (L3 d)]), (7, .bool true), (8, .bool false)]
    ⟨I.val 0, I.val 1, I.val 2, trivial⟩ rfl]
  have sW1 : W0.heap.size ≤ W1.heap.size := I.below.size
  replace ow1 := I.keep ow1 trivial
  replace ow2 := I.keep ow2 trivial
  have hW1 : Below w.heap.size w W1 := then_ hW0 I.below hW0.size
  clear I
  simp only [List.foldl_cons, List.foldl_nil, List.setIfInBounds_toArray, List.set_cons_zero, List.set_cons_succ]
  go_upto_region 3 with fail
  refine region_memo_f (B := W1.heap.size) (L := .val (.pointer (some ⟨w.heap.size, 0, none⟩)) :: .val (.agg #[.int .u64 (L0 n), .int .u64 (L1 n), .int .u64 (L2 n), .int .u64 (L3 n)]) :: .val (.pointer (some ⟨w.heap.size, 4, none⟩)) :: .val (.agg #[.int .u64 (L0 d), .int .u64 (L1 d), .int .u64 (L2 d), .int .u64 (L3 d)]) :: .val (.tuple #[.agg #[.int .u64 (L0 q), .int .u64 (L1 q), .int .u64 (L2 q), .int .u64 (L3 q)], .agg #[.int .u64 (L0 r), .int .u64 (L1 r), .int .u64 (L2 r), .int .u64 (L3 r)], .int .i64 0]) :: .val (.tuple #[.agg #[.int .u64 (L0 q), .int .u64 (L1 q), .int .u64 (L2 q), .int .u64 (L3 q)], .agg #[.int .u64 (L0 r), .int .u64 (L1 r), .int .u64 (L2 r), .int .u64 (L3 r)], .int .i64 0]) :: .val (.agg #[.int .u64 (L0 q), .int .u64 (L1 q), .int .u64 (L2 q), .int .u64 (L3 q)]) :: .val (.agg #[.int .u64 (L0 r), .int .u64 (L1 r), .int .u64 (L2 r), .int .u64 (L3 r)]) :: .val (.int .i64 0) :: .blk 24 4 :: .blk 24 4 :: .put 3 24 #[.int .u64 (L0 q), .int .u64 (L1 q), .int .u64 (L2 q), .int .u64 (L3 q)] :: .put 4 24 #[.int .u64 (L0 r), .int .u64 (L1 r), .int .u64 (L2 r), .int .u64 (L3 r)] :: .val (.int .i64 0) :: []) (by kernel_rfl) (Nat.le_refl _) ((by exact trivial))
    ⟨fun a w R => fa_R_0 (R.slot 1 rfl), fun a w R => ld_W (R.val 0) (R.keep ow1 trivial) rfl rfl rfl rfl, fun a w R => fa_R_1 (R.slot 1 rfl), fun a w R => ld_W (R.val 2) (R.keep ow1 trivial) rfl rfl rfl rfl, fun a w R => cl_tt (enter_at Tryd.func42) (R.val 1) (R.val 3) (HD.out _), fun a w R => mv (R.val 4), fun a w R => x30 (R.val 5), fun a w R => x31 (R.val 5), fun a w R => x32 (R.val 5), fun a w R => al_W, fun a w R => al_W, fun a w R => sb_W (R.dep 9) (R.val 6), fun a w R => sb_W (R.dep 10) (R.val 7), fun a w R => asg (R.val 8), trivial⟩ (fun act_ W2 I => ?_)
  obtain ⟨gb3, ew3, lw3, ow3⟩ := I.put 11 rfl rfl
  obtain ⟨gb4, ew4, lw4, ow4⟩ := I.put 12 rfl rfl
  have nw3_4 := I.apart2 9 10 rfl rfl (by omega) rfl rfl rfl rfl ew3 ew4
  rw [I.act [(11, .pointer (some ⟨w.heap.size, 0, none⟩)), (12, .agg #[.int .u64 (L0 n), .int .u64 (L1 n), .int .u64 (L2 n), .int .u64 (L3 n)]), (13, .pointer (some ⟨w.heap.size, 4, none⟩)), (14, .agg #[.int .u64 (L0 d), .int .u64 (L1 d), .int .u64 (L2 d), .int .u64 (L3 d)]), (15, .tuple #[.agg #[.int .u64 (L0 q), .int .u64 (L1 q), .int .u64 (L2 q), .int .u64 (L3 q)], .agg #[.int .u64 (L0 r), .int .u64 (L1 r), .int .u64 (L2 r), .int .u64 (L3 r)], .int .i64 0]), (10, .tuple #[.agg #[.int .u64 (L0 q), .int .u64 (L1 q), .int .u64 (L2 q), .int .u64 (L3 q)], .agg #[.int .u64 (L0 r), .int .u64 (L1 r), .int .u64 (L2 r), .int .u64 (L3 r)], .int .i64 0]), (16, .agg #[.int .u64 (L0 q), .int .u64 (L1 q), .int .u64 (L2 q), .int .u64 (L3 q)]), (17, .agg #[.int .u64 (L0 r), .int .u64 (L1 r), .int .u64 (L2 r), .int .u64 (L3 r)]), (18, .int .i64 0), (3, .pointer (some ⟨gb3, 0, none⟩)), (4, .pointer (some ⟨gb4, 0, none⟩)), (5, .int .i64 0)]
    ⟨I.val 0, I.val 1, I.val 2, I.val 3, I.val 4, I.val 5, I.val 6, I.val 7, I.val 8, ew3, ew4, I.val 13, trivial⟩ rfl]
  change W1.heap.size ≤ gb3 at lw3
  change W1.heap.size ≤ gb4 at lw4
  have sW2 : W1.heap.size ≤ W2.heap.size := I.below.size
  replace ow1 := I.keep ow1 trivial
  replace ow2 := I.keep ow2 trivial
  have hW2 : Below w.heap.size w W2 := then_ hW1 I.below hW1.size
  clear ew3 ew4
  clear I
  simp only [List.foldl_cons, List.foldl_nil, List.setIfInBounds_toArray, List.set_cons_zero, List.set_cons_succ]
  go_upto_region 4 with fail
  refine region_memo_f (B := W2.heap.size) (L := .val (.agg #[.int .u64 (L0 r), .int .u64 (L1 r), .int .u64 (L2 r), .int .u64 (L3 r)]) :: .val (.int .i64 (sgnZ r)) :: .val (.bool true) :: []) (by kernel_rfl) (Nat.le_refl _) ((by exact trivial))
    ⟨fun a w R => ld_W (R.slot 4 rfl) (R.keep ow4 trivial) rfl rfl rfl rfl, fun a w R => cl_t (enter_at Tryd.func40) (R.val 0) (sign_b _ hr _), fun a w R => c_lss_tk (R.val 1) (Tryd.underlying3) hs.out, trivial⟩ (fun act_ W3 I => ?_)
  rw [I.act [(19, .agg #[.int .u64 (L0 r), .int .u64 (L1 r), .int .u64 (L2 r), .int .u64 (L3 r)]), (20, .int .i64 (sgnZ r)), (21, .bool true)]
    ⟨I.val 0, I.val 1, I.val 2, trivial⟩ rfl]
  have sW3 : W2.heap.size ≤ W3.heap.size := I.below.size
  replace ow1 := I.keep ow1 trivial
  replace ow2 := I.keep ow2 trivial
  replace ow3 := I.keep ow3 trivial
  replace ow4 := I.keep ow4 trivial
  have hW3 : Below w.heap.size w W3 := then_ hW2 I.below hW2.size
  clear I
  simp only [List.foldl_cons, List.foldl_nil, List.setIfInBounds_toArray, List.set_cons_zero, List.set_cons_succ]
  go_upto_region 5 with fail
  refine region_memo (B := w.heap.size) (L := .val (.agg #[.int .u64 (L0 q), .int .u64 (L1 q), .int .u64 (L2 q), .int .u64 (L3 q)]) :: .val (.agg #[.int .u64 (L0 1), .int .u64 (L1 1), .int .u64 (L2 1), .int .u64 (L3 1)]) :: .val (.tuple #[.agg #[.int .u64 (L0 (q - 1)), .int .u64 (L1 (q - 1)), .int .u64 (L2 (q - 1)), .int .u64 (L3 (q - 1))], .int .i64 0]) :: .val (.tuple #[.agg #[.int .u64 (L0 (q - 1)), .int .u64 (L1 (q - 1)), .int .u64 (L2 (q - 1)), .int .u64 (L3 (q - 1))], .int .i64 0]) :: .val (.agg #[.int .u64 (L0 (q - 1)), .int .u64 (L1 (q - 1)), .int .u64 (L2 (q - 1)), .int .u64 (L3 (q - 1))]) :: .val (.int .i64 0) :: .sto gb3 24 #[.int .u64 (L0 (q - 1)), .int .u64 (L1 (q - 1)), .int .u64 (L2 (q - 1)), .int .u64 (L3 (q - 1))] :: []) (by kernel_rfl) (by kernel_rfl) (hW3.size) (Olds.v (Olds.v (Olds.v (Olds.v (Olds.v (Olds.v (Olds.s (by omega) ow3.drawn.in_ (by repeat' (first | exact trivial | refine Off.v ?_ | refine Off.k ?_ | refine Off.b ?_ | refine Off.n ?_ | refine Off.p ?_ | refine Off.s ?_ ?_ | omega)) (trivial))))))))
    ⟨fun a w R => ld_W (R.slot 3 rfl) (R.old 6 rfl rfl (by kernel_rfl) ow3.drawn) rfl rfl rfl rfl, fun a w R => cl_k (enter_at Tryd.func20)  (of_b 1 (by decide) (by decide) _), fun a w R => cl_tt (enter_at Tryd.func11) (R.val 0) (R.val 1) (sub_fit q 1 hq ⟨by decide, by decide⟩ hq1 _), fun a w R => mv (R.val 2), fun a w R => ex0 (R.val 3), fun a w R => ex1 (R.val 3), fun a w R => so_W (R.slot 3 rfl) (R.own rfl ow3.drawn) rfl (R.val 4), trivial⟩ (fun act_ W4 I => ?_)
  rw [I.act [(23, .agg #[.int .u64 (L0 q), .int .u64 (L1 q), .int .u64 (L2 q), .int .u64 (L3 q)]), (24, .agg #[.int .u64 (L0 1), .int .u64 (L1 1), .int .u64 (L2 1), .int .u64 (L3 1)]), (25, .tuple #[.agg #[.int .u64 (L0 (q - 1)), .int .u64 (L1 (q - 1)), .int .u64 (L2 (q - 1)), .int .u64 (L3 (q - 1))], .int .i64 0]), (22, .tuple #[.agg #[.int .u64 (L0 (q - 1)), .int .u64 (L1 (q - 1)), .int .u64 (L2 (q - 1)), .int .u64 (L3 (q - 1))], .int .i64 0]), (26, .agg #[.int .u64 (L0 (q - 1)), .int .u64 (L1 (q - 1)), .int .u64 (L2 (q - 1)), .int .u64 (L3 (q - 1))]), (27, .int .i64 0)]
    ⟨I.val 0, I.val 1, I.val 2, I.val 3, I.val 4, I.val 5, trivial⟩ rfl]
  have sW4 : W3.heap.size ≤ W4.heap.size := I.below.size
  replace ow1 := I.keep ow1.drawn (by repeat' (first | exact trivial | refine Off.v ?_ | refine Off.k ?_ | refine Off.b ?_ | refine Off.n ?_ | refine Off.p ?_ | refine Off.s ?_ ?_ | omega))
  replace ow2 := I.keep ow2.drawn (by repeat' (first | exact trivial | refine Off.v ?_ | refine Off.k ?_ | refine Off.b ?_ | refine Off.n ?_ | refine Off.p ?_ | refine Off.s ?_ ?_ | omega))
  replace ow4 := I.keep ow4.drawn (by repeat' (first | exact trivial | refine Off.v ?_ | refine Off.k ?_ | refine Off.b ?_ | refine Off.n ?_ | refine Off.p ?_ | refine Off.s ?_ ?_ | omega))
  replace ow3 := I.sto 6 rfl rfl
  have hW4 : Below w.heap.size w W4 := hW3.drew.trans I.below
  clear I
  simp only [List.foldl_cons, List.foldl_nil, List.setIfInBounds_toArray, List.set_cons_zero, List.set_cons_succ]
  go_upto_region 6 with fail
  refine region_memo_f (B := w.heap.size) (L := .val (.agg #[.int .u64 (L0 (q - 1)), .int .u64 (L1 (q - 1)), .int .u64 (L2 (q - 1)), .int .u64 (L3 (q - 1))]) :: .sto (w.heap.size + 1) 24 #[.int .u64 (L0 (q - 1)), .int .u64 (L1 (q - 1)), .int .u64 (L2 (q - 1)), .int .u64 (L3 (q - 1))] :: []) (by kernel_rfl) (hW4.size) (Olds.v (Olds.s (by omega) ow2.in_ (by repeat' (first | exact trivial | refine Off.v ?_ | refine Off.k ?_ | refine Off.b ?_ | refine Off.n ?_ | refine Off.p ?_ | refine Off.s ?_ ?_ | omega)) (trivial)))
    ⟨fun a w R => ld_W (R.slot 3 rfl) (R.keep ow3 (by repeat' (first | exact trivial | refine Off.v ?_ | refine Off.k ?_ | refine Off.b ?_ | refine Off.n ?_ | refine Off.p ?_ | refine Off.s ?_ ?_ | omega))) rfl rfl rfl rfl, fun a w R => so_W (R.slot 2 rfl) (R.own rfl ow2) rfl (R.val 0), trivial⟩ (fun act_ W5 I => ?_)
  rw [I.act [(28, .agg #[.int .u64 (L0 (q - 1)), .int .u64 (L1 (q - 1)), .int .u64 (L2 (q - 1)), .int .u64 (L3 (q - 1))])]
    ⟨I.val 0, trivial⟩ rfl]
  have sW5 : W4.heap.size ≤ W5.heap.size := I.below.size
  replace ow1 := I.keep ow1 (by repeat' (first | exact trivial | refine Off.v ?_ | refine Off.k ?_ | refine Off.b ?_ | refine Off.n ?_ | refine Off.p ?_ | refine Off.s ?_ ?_ | omega))
  replace ow3 := I.keep ow3 (by repeat' (first | exact trivial | refine Off.v ?_ | refine Off.k ?_ | refine Off.b ?_ | refine Off.n ?_ | refine Off.p ?_ | refine Off.s ?_ ?_ | omega))
  replace ow4 := I.keep ow4 (by repeat' (first | exact trivial | refine Off.v ?_ | refine Off.k ?_ | refine Off.b ?_ | refine Off.n ?_ | refine Off.p ?_ | refine Off.s ?_ ?_ | omega))
  replace ow2 := I.sto 1 rfl rfl
  have hW5 : Below w.heap.size w W5 := hW4.trans I.below
  clear I
  simp only [List.foldl_cons, List.foldl_nil, List.setIfInBounds_toArray, List.set_cons_zero, List.set_cons_succ]
  obtain ⟨r2_, r2_1, r2_2⟩ := ow2.at_
  clear ow1 ow2 ow3 ow4
  go_wp2
  try simp only [setCell_drawn]
  refine bodyPost_ret (by first | (simp [results, Tryd.results22, go_sem, r2_]; done) | (simp [results, Tryd.results22, go_sem, r2_]; rfl)) rfl ⟨?_, hW5⟩
  rfl
theorem it2 : (⟨(Lib.itoa 2).toArray⟩ : ByteArray) = ⟨#[50]⟩ := by
  have : Lib.itoa 2 = [50] := by unfold Lib.itoa; rw [if_neg (by decide)]; show Lib.decDigits 2 = _; simp [Lib.decDigits]
  rw [this]
theorem it3 : (⟨(Lib.itoa (-3)).toArray⟩ : ByteArray) = ⟨#[45, 51]⟩ := by
  have : Lib.itoa (-3) = [45, 51] := by
    unfold Lib.itoa
    rw [if_pos (by decide)]
    show _ :: Lib.decDigits 3 = _
    simp [Lib.decDigits]
  rw [this]
theorem ex_2 (w : World) (hp : Pow10 w) : Calls Tryd.prog 44 #[.agg #[.int .u64 (L0 2), .int .u64 (L1 2), .int .u64 (L2 2), .int .u64 (L3 2)]] w fun e w' => e = .returned (.string ⟨#[50]⟩) ∧ Below w.heap.size w w' := it2 ▸ Text_any 2 ⟨by decide, by decide⟩ w hp
theorem ex_m3 (w : World) (hp : Pow10 w) : Calls Tryd.prog 44 #[.agg #[.int .u64 (L0 (-3)), .int .u64 (L1 (-3)), .int .u64 (L2 (-3)), .int .u64 (L3 (-3))]] w fun e w' => e = .returned (.string ⟨#[45, 51]⟩) ∧ Below w.heap.size w w' := it3 ▸ Text_any (-3) ⟨by decide, by decide⟩ w hp
set_option maxHeartbeats 16000000 in
set_option maxRecDepth 20000 in
theorem ex_rtext (w : World) (hp : Pow10 w) : Calls Tryd.prog 21 #[.agg #[.int .u64 (L0 ((-3))), .int .u64 (L1 ((-3))), .int .u64 (L2 ((-3))), .int .u64 (L3 ((-3))), .int .u64 (L0 2), .int .u64 (L1 2), .int .u64 (L2 2), .int .u64 (L3 2)]] w fun e w' => e = .returned (.string ⟨#[45, 51, 47, 50]⟩) ∧ Below w.heap.size w w' := by
  have E0 : Hid (decide (Rgt (-3) 2) = true) := Lib.hid (by decide)
  have E1 : Hid (decide ((2 : Int) = 1) = false) := Lib.hid (by decide)
  go_enter Tryd.func21, Tryd.ntmps21
  go_upto_region 1 with fail
  go_name_world W0 hW0e
  have ow1 : Own W0 w.heap.size 26 #[.int .u64 (L0 (-3)), .int .u64 (L1 (-3)), .int .u64 (L2 (-3)), .int .u64 (L3 (-3)), .int .u64 (L0 2), .int .u64 (L1 2), .int .u64 (L2 2), .int .u64 (L3 2)] := hW0e ▸ (by repeat' (first | (with_reducible assumption) | (with_reducible refine Own.drawnN ?_ _) | (with_reducible refine Own.drawn ?_) | (with_reducible refine Own.made_at ?_; first | rfl | (simp; done) | omega | (simp; omega)) | (with_reducible refine Own.more ?_ _) | (with_reducible refine Own.apart ?_ ?_ _ _; rotate_left; first | omega | (simp; done) | (simp; omega)) | (refine Own.put ?_ _ _)))
  have hW0 : Below w.heap.size w W0 := hW0e ▸ (by repeat' (first | (with_reducible exact Below.refl _ _) | (with_reducible assumption) | (with_reducible refine below_drewN ?_ _) | (with_reducible refine Below.drew ?_) | (with_reducible refine Below.alloc ?_ ?_ _) | (with_reducible refine Below.setCell ?_ ?_ _) | (with_reducible refine then_ ?_ (by with_reducible assumption) ?_) | (with_reducible exact Nat.le_refl _) | (with_reducible exact Nat.le_succ _) | (with_reducible exact Nat.le_succ_of_le (by with_reducible assumption)) | omega | (simp; done) | (simp; omega) | (exact Nat.le_succ _) | (exact Nat.le_succ_of_le (by with_reducible assumption))))
  clear hW0e
  have z0 := ow1.in_
  go_upto_region 1 with fail
  refine region_memo_f (B := W0.heap.size) (L := .val (.agg #[.int .u64 (L0 (-3)), .int .u64 (L1 (-3)), .int .u64 (L2 (-3)), .int .u64 (L3 (-3)), .int .u64 (L0 2), .int .u64 (L1 2), .int .u64 (L2 2), .int .u64 (L3 2)]) :: .val (.bool true) :: .val (.bool false) :: .val (.bool false) :: []) (by kernel_rfl) (Nat.le_refl _) ((by exact trivial))
    ⟨fun a w R => ld_R (R.slot 1 rfl) (R.keep ow1 trivial) rfl rfl rfl rfl rfl rfl rfl rfl, fun a w R => cl_t (enter_at Tryd.func43) (R.val 0) (Right_is ⟨by decide, by decide⟩ ⟨by decide, by decide⟩ E0.out _), fun a w R => notb (R.val 1), fun a w R => asg (R.val 2), trivial⟩ (fun act_ W1 I => ?_)
  rw [I.act [(4, .agg #[.int .u64 (L0 (-3)), .int .u64 (L1 (-3)), .int .u64 (L2 (-3)), .int .u64 (L3 (-3)), .int .u64 (L0 2), .int .u64 (L1 2), .int .u64 (L2 2), .int .u64 (L3 2)]), (5, .bool true), (6, .bool false), (3, .bool false)]
    ⟨I.val 0, I.val 1, I.val 2, I.val 3, trivial⟩ rfl]
  have sW1 : W0.heap.size ≤ W1.heap.size := I.below.size
  replace ow1 := I.keep ow1 trivial
  have hW1 : Below w.heap.size w W1 := then_ hW0 I.below hW0.size
  clear I
  simp only [List.foldl_cons, List.foldl_nil, List.setIfInBounds_toArray, List.set_cons_zero, List.set_cons_succ]
  go_upto_region 3 with fail
  refine region_memo (B := W1.heap.size) (L := .val (.pointer (some ⟨w.heap.size, 4, none⟩)) :: .val (.agg #[.int .u64 (L0 2), .int .u64 (L1 2), .int .u64 (L2 2), .int .u64 (L3 2)]) :: .val (.agg #[.int .u64 (L0 1), .int .u64 (L1 1), .int .u64 (L2 1), .int .u64 (L3 1)]) :: .val (.bool false) :: .val (.bool false) :: []) (by kernel_rfl) (by kernel_rfl) (Nat.le_refl _) ((by exact trivial))
    ⟨fun a w R => fa_R_1 (R.slot 1 rfl), fun a w R => ld_W (R.val 0) (R.keep ow1.drawn trivial) rfl rfl rfl rfl, fun a w R => cl_k (enter_at Tryd.func20)  (of_b 1 (by decide) (by decide) _), fun a w R => (e_eql_W (R.val 1) (R.val 2) (fun w => (eq_fit (a := 2) (b := 1) ⟨by decide, by decide⟩ ⟨by decide, by decide⟩ w).trans (by rw [E1.out]))), fun a w R => asg (R.val 3), trivial⟩ (fun act_ W2 I => ?_)
  rw [I.act [(8, .pointer (some ⟨w.heap.size, 4, none⟩)), (9, .agg #[.int .u64 (L0 2), .int .u64 (L1 2), .int .u64 (L2 2), .int .u64 (L3 2)]), (10, .agg #[.int .u64 (L0 1), .int .u64 (L1 1), .int .u64 (L2 1), .int .u64 (L3 1)]), (11, .bool false), (7, .bool false)]
    ⟨I.val 0, I.val 1, I.val 2, I.val 3, I.val 4, trivial⟩ rfl]
  have sW2 : W1.heap.size ≤ W2.heap.size := I.below.size
  replace ow1 := I.keep ow1.drawn trivial
  have hW2 : Below w.heap.size w W2 := then_ hW1.drew I.below hW1.size
  clear I
  simp only [List.foldl_cons, List.foldl_nil, List.setIfInBounds_toArray, List.set_cons_zero, List.set_cons_succ]
  go_upto_region 5 with fail
  refine region_memo (B := W2.heap.size) (L := .val (.pointer (some ⟨w.heap.size, 0, none⟩)) :: .val (.agg #[.int .u64 (L0 (-3)), .int .u64 (L1 (-3)), .int .u64 (L2 (-3)), .int .u64 (L3 (-3))]) :: .val (.string ⟨#[45, 51]⟩) :: .val (.string ⟨#[45, 51, 47]⟩) :: .val (.pointer (some ⟨w.heap.size, 4, none⟩)) :: .val (.agg #[.int .u64 (L0 2), .int .u64 (L1 2), .int .u64 (L2 2), .int .u64 (L3 2)]) :: .val (.string ⟨#[50]⟩) :: .val (.string ⟨#[45, 51, 47, 50]⟩) :: .val (.string ⟨#[45, 51, 47, 50]⟩) :: []) (by kernel_rfl) (by kernel_rfl) (Nat.le_refl _) ((by exact trivial))
    ⟨fun a w R => fa_R_0 (R.slot 1 rfl), fun a w R => ld_W (R.val 0) (R.keep ow1.drawn trivial) rfl rfl rfl rfl, fun a w R => cl_t (enter_at Tryd.func44) (R.val 1) (ex_m3 _ ((hp.keep hW2.drew).keep R.below)), fun a w R => sadd_tk (R.val 2) rfl (by decide), fun a w R => fa_R_1 (R.slot 1 rfl), fun a w R => ld_W (R.val 4) (R.keep ow1.drawn trivial) rfl rfl rfl rfl, fun a w R => cl_t (enter_at Tryd.func44) (R.val 5) (ex_2 _ ((hp.keep hW2.drew).keep R.below)), fun a w R => sadd_tt (R.val 3) (R.val 6) rfl (by decide), fun a w R => asg (R.val 7), trivial⟩ (fun act_ W3 I => ?_)
  rw [I.act [(15, .pointer (some ⟨w.heap.size, 0, none⟩)), (16, .agg #[.int .u64 (L0 (-3)), .int .u64 (L1 (-3)), .int .u64 (L2 (-3)), .int .u64 (L3 (-3))]), (17, .string ⟨#[45, 51]⟩), (18, .string ⟨#[45, 51, 47]⟩), (19, .pointer (some ⟨w.heap.size, 4, none⟩)), (20, .agg #[.int .u64 (L0 2), .int .u64 (L1 2), .int .u64 (L2 2), .int .u64 (L3 2)]), (21, .string ⟨#[50]⟩), (22, .string ⟨#[45, 51, 47, 50]⟩), (2, .string ⟨#[45, 51, 47, 50]⟩)]
    ⟨I.val 0, I.val 1, I.val 2, I.val 3, I.val 4, I.val 5, I.val 6, I.val 7, I.val 8, trivial⟩ rfl]
  have sW3 : W2.heap.size ≤ W3.heap.size := I.below.size
  replace ow1 := I.keep ow1.drawn trivial
  have hW3 : Below w.heap.size w W3 := then_ hW2.drew I.below hW2.size
  clear I
  simp only [List.foldl_cons, List.foldl_nil, List.setIfInBounds_toArray, List.set_cons_zero, List.set_cons_succ]
  clear ow1
  go_wp2
  try simp only [setCell_drawn]
  refine bodyPost_ret (by first | (simp [results, Tryd.results21, go_sem]; done) | (simp [results, Tryd.results21, go_sem]; rfl)) rfl ⟨?_, hW3⟩
  rfl
theorem ex_floor (w : World) : Calls Tryd.prog 22 #[.agg #[.int .u64 (L0 ((-3))), .int .u64 (L1 ((-3))), .int .u64 (L2 ((-3))), .int .u64 (L3 ((-3))), .int .u64 (L0 2), .int .u64 (L1 2), .int .u64 (L2 2), .int .u64 (L3 2)]] w fun e w' => e = .returned (.agg #[.int .u64 (L0 (-2)), .int .u64 (L1 (-2)), .int .u64 (L2 (-2)), .int .u64 (L3 (-2))]) ∧ Below w.heap.size w w' :=
  RFloor_neg (q := -1) (r := -1) ⟨by decide, by decide⟩ ⟨by decide, by decide⟩ (by decide) ⟨by decide, by decide⟩ ⟨by decide, by decide⟩ ⟨by decide, by decide⟩ (by decide) (fun w => div_fit (-3) 2 ⟨by decide, by decide⟩ ⟨by decide, by decide⟩ (by decide) ⟨by decide, by decide⟩ w) w
theorem ex_sign (w : World) : Calls Tryd.prog 23 #[.agg #[.int .u64 (L0 ((-3))), .int .u64 (L1 ((-3))), .int .u64 (L2 ((-3))), .int .u64 (L3 ((-3))), .int .u64 (L0 2), .int .u64 (L1 2), .int .u64 (L2 2), .int .u64 (L3 2)]] w fun e w' => e = .returned (.int .i64 (-1)) ∧ Below w.heap.size w w' :=
  RSign_in ⟨by decide, by decide⟩ ⟨by decide, by decide⟩ (by decide) w
theorem ex_make (w : World) : Calls Tryd.prog 19 #[.agg #[.int .u64 (L0 6), .int .u64 (L1 6), .int .u64 (L2 6), .int .u64 (L3 6)], .agg #[.int .u64 (L0 (-4)), .int .u64 (L1 (-4)), .int .u64 (L2 (-4)), .int .u64 (L3 (-4))]] w fun e w' => e = .returned (.tuple #[.agg #[.int .u64 (L0 ((-3))), .int .u64 (L1 ((-3))), .int .u64 (L2 ((-3))), .int .u64 (L3 ((-3))), .int .u64 (L0 2), .int .u64 (L1 2), .int .u64 (L2 2), .int .u64 (L3 2)], .int .i64 0]) ∧ Below w.heap.size w w' :=
  Make_neg (g := 2) (m := -2) (p := -3) (q := 2) (r1 := 0) (r2 := 0) (eg := 0) (e1 := 0) (e2 := 0) ⟨by decide, by decide⟩ ⟨by decide, by decide⟩ ⟨by decide, by decide⟩ (by decide) (by decide) (fun w => gcd_fit 6 (-4) ⟨by decide, by decide⟩ ⟨by decide, by decide⟩ ⟨by decide, by decide⟩ w) (fun w => neg_fit 2 ⟨by decide, by decide⟩ ⟨by decide, by decide⟩ w) (fun w => div_fit 6 (-2) ⟨by decide, by decide⟩ ⟨by decide, by decide⟩ (by decide) ⟨by decide, by decide⟩ w) (fun w => div_fit (-4) (-2) ⟨by decide, by decide⟩ ⟨by decide, by decide⟩ (by decide) ⟨by decide, by decide⟩ w) w
set_option maxHeartbeats 16000000 in
set_option maxRecDepth 20000 in
theorem awake4 (w : World) (hp : Pow10 w) : Calls Tryd.prog 8 #[] w fun e w' => e = .returned (.bool true) ∧ Below w.heap.size w w' := by
  have E1 : Hid (decide ((-2 : Int) = -2) = true) := Lib.hid rfl
  go_enter Tryd.func8, Tryd.ntmps8
  go_upto_region 1 with fail
  obtain ⟨W0, hW0e⟩ : ∃ W0, W0 = w := ⟨w, rfl⟩
  have hW0 : Below w.heap.size w W0 := by rw [hW0e]; exact Below.refl _ _
  first | rw [← hW0e] | skip
  go_upto_region 1 with fail
  refine region_memo_f (B := W0.heap.size) (L := .val (.agg #[.int .u64 (L0 6), .int .u64 (L1 6), .int .u64 (L2 6), .int .u64 (L3 6)]) :: .val (.agg #[.int .u64 (L0 (-4)), .int .u64 (L1 (-4)), .int .u64 (L2 (-4)), .int .u64 (L3 (-4))]) :: .val (.tuple #[.agg #[.int .u64 (L0 (-3)), .int .u64 (L1 (-3)), .int .u64 (L2 (-3)), .int .u64 (L3 (-3)), .int .u64 (L0 2), .int .u64 (L1 2), .int .u64 (L2 2), .int .u64 (L3 2)], .int .i64 0]) :: .val (.tuple #[.agg #[.int .u64 (L0 (-3)), .int .u64 (L1 (-3)), .int .u64 (L2 (-3)), .int .u64 (L3 (-3)), .int .u64 (L0 2), .int .u64 (L1 2), .int .u64 (L2 2), .int .u64 (L3 2)], .int .i64 0]) :: .val (.agg #[.int .u64 (L0 (-3)), .int .u64 (L1 (-3)), .int .u64 (L2 (-3)), .int .u64 (L3 (-3)), .int .u64 (L0 2), .int .u64 (L1 2), .int .u64 (L2 2), .int .u64 (L3 2)]) :: .val (.int .i64 0) :: .blk 26 8 :: .put 1 26 #[.int .u64 (L0 (-3)), .int .u64 (L1 (-3)), .int .u64 (L2 (-3)), .int .u64 (L3 (-3)), .int .u64 (L0 2), .int .u64 (L1 2), .int .u64 (L2 2), .int .u64 (L3 2)] :: .val (.int .i64 0) :: []) (by kernel_rfl) (Nat.le_refl _) ((by exact trivial))
    ⟨fun a w R => cl_k (enter_at Tryd.func20)  (of_b 6 (by decide) (by decide) _), fun a w R => cl_k (enter_at Tryd.func20)  (of_b (-4) (by decide) (by decide) _), fun a w R => cl_tt (enter_at Tryd.func19) (R.val 0) (R.val 1) (ex_make _), fun a w R => mv (R.val 2), fun a w R => ex0 (R.val 3), fun a w R => ex1 (R.val 3), fun a w R => al_R, fun a w R => sb_R (R.dep 6) (R.val 4), fun a w R => asg (R.val 5), trivial⟩ (fun act_ W1 I => ?_)
  obtain ⟨gb1, ew1, lw1, ow1⟩ := I.put 7 rfl rfl
  rw [I.act [(4, .agg #[.int .u64 (L0 6), .int .u64 (L1 6), .int .u64 (L2 6), .int .u64 (L3 6)]), (5, .agg #[.int .u64 (L0 (-4)), .int .u64 (L1 (-4)), .int .u64 (L2 (-4)), .int .u64 (L3 (-4))]), (6, .tuple #[.agg #[.int .u64 (L0 (-3)), .int .u64 (L1 (-3)), .int .u64 (L2 (-3)), .int .u64 (L3 (-3)), .int .u64 (L0 2), .int .u64 (L1 2), .int .u64 (L2 2), .int .u64 (L3 2)], .int .i64 0]), (3, .tuple #[.agg #[.int .u64 (L0 (-3)), .int .u64 (L1 (-3)), .int .u64 (L2 (-3)), .int .u64 (L3 (-3)), .int .u64 (L0 2), .int .u64 (L1 2), .int .u64 (L2 2), .int .u64 (L3 2)], .int .i64 0]), (7, .agg #[.int .u64 (L0 (-3)), .int .u64 (L1 (-3)), .int .u64 (L2 (-3)), .int .u64 (L3 (-3)), .int .u64 (L0 2), .int .u64 (L1 2), .int .u64 (L2 2), .int .u64 (L3 2)]), (8, .int .i64 0), (1, .pointer (some ⟨gb1, 0, none⟩)), (2, .int .i64 0)]
    ⟨I.val 0, I.val 1, I.val 2, I.val 3, I.val 4, I.val 5, ew1, I.val 8, trivial⟩ rfl]
  change W0.heap.size ≤ gb1 at lw1
  have sW1 : W0.heap.size ≤ W1.heap.size := I.below.size
  have hW1 : Below w.heap.size w W1 := then_ hW0 I.below hW0.size
  clear ew1
  clear I
  simp only [List.foldl_cons, List.foldl_nil, List.setIfInBounds_toArray, List.set_cons_zero, List.set_cons_succ]
  go_upto_region 2 with fail
  refine region_memo_f (B := W1.heap.size) (L := .val (.int .i64 0) :: .val (.bool true) :: .val (.bool true) :: .val (.agg #[.int .u64 (L0 (-3)), .int .u64 (L1 (-3)), .int .u64 (L2 (-3)), .int .u64 (L3 (-3)), .int .u64 (L0 2), .int .u64 (L1 2), .int .u64 (L2 2), .int .u64 (L3 2)]) :: .val (.string ⟨#[45, 51, 47, 50]⟩) :: .val (.bool true) :: .val (.bool true) :: .val (.bool true) :: .val (.agg #[.int .u64 (L0 (-3)), .int .u64 (L1 (-3)), .int .u64 (L2 (-3)), .int .u64 (L3 (-3)), .int .u64 (L0 2), .int .u64 (L1 2), .int .u64 (L2 2), .int .u64 (L3 2)]) :: .val (.agg #[.int .u64 (L0 (-2)), .int .u64 (L1 (-2)), .int .u64 (L2 (-2)), .int .u64 (L3 (-2))]) :: .val (.agg #[.int .u64 (L0 (-2)), .int .u64 (L1 (-2)), .int .u64 (L2 (-2)), .int .u64 (L3 (-2))]) :: .val (.bool true) :: .val (.bool true) :: .val (.bool true) :: .val (.agg #[.int .u64 (L0 (-3)), .int .u64 (L1 (-3)), .int .u64 (L2 (-3)), .int .u64 (L3 (-3)), .int .u64 (L0 2), .int .u64 (L1 2), .int .u64 (L2 2), .int .u64 (L3 2)]) :: .val (.int .i64 (-1)) :: .val (.bool true) :: .val (.bool true) :: .val (.bool true) :: []) (by kernel_rfl) (Nat.le_refl _) ((by exact trivial))
    ⟨fun a w R => mv (R.slot 2 rfl), fun a w R => c_eql_tk (R.val 0) (Tryd.underlying27) (by decide), fun a w R => mv (R.val 1), fun a w R => ld_R (R.slot 1 rfl) (R.keep ow1 trivial) rfl rfl rfl rfl rfl rfl rfl rfl, fun a w R => cl_t (enter_at Tryd.func21) (R.val 3) (ex_rtext _ ((hp.keep hW1).keep R.below)), fun a w R => eqs (R.val 4) (Tryd.underlying9) rfl, fun a w R => pickt (R.val 2) (R.val 5), fun a w R => mv (R.val 6), fun a w R => ld_R (R.slot 1 rfl) (R.keep ow1 trivial) rfl rfl rfl rfl rfl rfl rfl rfl, fun a w R => cl_t (enter_at Tryd.func22) (R.val 8) (ex_floor _), fun a w R => cl_k (enter_at Tryd.func20)  (of_b (-2) (by decide) (by decide) _), fun a w R => (e_eql_W (R.val 9) (R.val 10) (fun w => (eq_fit (a := -2) (b := -2) ⟨by decide, by decide⟩ ⟨by decide, by decide⟩ w).trans (by rw [E1.out]))), fun a w R => pickt (R.val 7) (R.val 11), fun a w R => mv (R.val 12), fun a w R => ld_R (R.slot 1 rfl) (R.keep ow1 trivial) rfl rfl rfl rfl rfl rfl rfl rfl, fun a w R => cl_t (enter_at Tryd.func23) (R.val 14) (ex_sign _), fun a w R => c_eql_tk (R.val 15) (Tryd.underlying3) (by decide), fun a w R => pickt (R.val 13) (R.val 16), fun a w R => asg (R.val 17), trivial⟩ (fun act_ W2 I => ?_)
  rw [I.act [(9, .int .i64 0), (10, .bool true), (11, .bool true), (12, .agg #[.int .u64 (L0 (-3)), .int .u64 (L1 (-3)), .int .u64 (L2 (-3)), .int .u64 (L3 (-3)), .int .u64 (L0 2), .int .u64 (L1 2), .int .u64 (L2 2), .int .u64 (L3 2)]), (13, .string ⟨#[45, 51, 47, 50]⟩), (14, .bool true), (15, .bool true), (16, .bool true), (17, .agg #[.int .u64 (L0 (-3)), .int .u64 (L1 (-3)), .int .u64 (L2 (-3)), .int .u64 (L3 (-3)), .int .u64 (L0 2), .int .u64 (L1 2), .int .u64 (L2 2), .int .u64 (L3 2)]), (18, .agg #[.int .u64 (L0 (-2)), .int .u64 (L1 (-2)), .int .u64 (L2 (-2)), .int .u64 (L3 (-2))]), (19, .agg #[.int .u64 (L0 (-2)), .int .u64 (L1 (-2)), .int .u64 (L2 (-2)), .int .u64 (L3 (-2))]), (20, .bool true), (21, .bool true), (22, .bool true), (23, .agg #[.int .u64 (L0 (-3)), .int .u64 (L1 (-3)), .int .u64 (L2 (-3)), .int .u64 (L3 (-3)), .int .u64 (L0 2), .int .u64 (L1 2), .int .u64 (L2 2), .int .u64 (L3 2)]), (24, .int .i64 (-1)), (25, .bool true), (26, .bool true), (0, .bool true)]
    ⟨I.val 0, I.val 1, I.val 2, I.val 3, I.val 4, I.val 5, I.val 6, I.val 7, I.val 8, I.val 9, I.val 10, I.val 11, I.val 12, I.val 13, I.val 14, I.val 15, I.val 16, I.val 17, I.val 18, trivial⟩ rfl]
  have sW2 : W1.heap.size ≤ W2.heap.size := I.below.size
  replace ow1 := I.keep ow1 trivial
  have hW2 : Below w.heap.size w W2 := then_ hW1 I.below hW1.size
  clear I
  simp only [List.foldl_cons, List.foldl_nil, List.setIfInBounds_toArray, List.set_cons_zero, List.set_cons_succ]
  clear ow1
  go_wp2
  try simp only [setCell_drawn]
  refine bodyPost_ret (by first | (simp [results, Tryd.results8, go_sem]; done) | (simp [results, Tryd.results8, go_sem]; rfl)) rfl ⟨?_, hW2⟩
  rfl
end Go.Proofs.YtjmojddnedngaaaDoor
