
/- The contracts of ratio's calls; written by auto_ratio.py. Conditions: numbers that a wide.Int can be; of sums and products: that all fits. -/
import Derived.Test.YtjmojddnedngaaaDoorRefS
import Derived.Test.YtjmojddnedngaaaDoorOps
namespace Go.Proofs.YtjmojddnedngaaaDoor
open Go.ChangeShapes Go.WideShapes Go.ChangeAt Go.RowKit
set_option linter.unusedVariables false
set_option linter.unusedSimpArgs false

theorem right_1 {n d : Int} (h : decide (sgnZ d ≤ 0) = true) : decide (Rgt n d) = false := by
  have h' := of_decide_eq_true h
  refine decide_eq_false fun k => ?_
  have := k.1
  unfold sgnZ at h'
  omega
theorem right_2 {n d g er : Int} (HG : er = 3 ∧ g = 0 ∧ ¬ Fit (gz n d) ∨ er = 0 ∧ g = gz n d) (h : (er == 0) = false) : decide (Rgt n d) = false := by
  have h' : ¬ er = 0 := by simpa using h
  refine decide_eq_false fun k => ?_
  rcases HG with ⟨_, _, h⟩ | ⟨h, _⟩
  · rw [k.2] at h; exact h ⟨by decide, by decide⟩
  · exact h' h
theorem right_3 {n d g er : Int} {b : Bool} (HG : er = 3 ∧ g = 0 ∧ ¬ Fit (gz n d) ∨ er = 0 ∧ g = gz n d) (h : decide (sgnZ d ≤ 0) = false) (k : (er == 0) = true) (l : decide (g = 1) = b) : decide (Rgt n d) = b := by
  have h' := of_decide_eq_false h
  have k' : er = 0 := by simpa using k
  have hd : 0 < d := by unfold sgnZ at h'; omega
  rcases HG with ⟨h, _⟩ | ⟨_, rfl⟩
  · omega
  · rw [← l]
    unfold Rgt
    simp [hd]
set_option maxHeartbeats 16000000 in
set_option maxRecDepth 20000 in
theorem Right_any {n d : Int} (hn : Fit n) (hd : Fit d) (w : World) : Calls Tryd.prog 43 #[.agg #[.int .u64 (L0 n), .int .u64 (L1 n), .int .u64 (L2 n), .int .u64 (L3 n), .int .u64 (L0 d), .int .u64 (L1 d), .int .u64 (L2 d), .int .u64 (L3 d)]] w fun e w' => e = .returned (.bool (decide (Rgt n d))) ∧ Below w.heap.size w w' := by
  obtain ⟨g, er, HG0, hg, HX0⟩ := gcd_all n d hn hd
  have HG := Lib.hid HG0
  have HX : Hid (er = 3 ∧ g = 0 ∧ ¬ Fit (gz n d) ∨ er = 0 ∧ g = gz n d) := Lib.hid HX0
  clear HG0 HX0
  go_enter Tryd.func43, Tryd.ntmps43
  go_upto_region 1 with fail
  go_name_world W0 hW0e
  have ow1 : Own W0 w.heap.size 26 #[.int .u64 (L0 n), .int .u64 (L1 n), .int .u64 (L2 n), .int .u64 (L3 n), .int .u64 (L0 d), .int .u64 (L1 d), .int .u64 (L2 d), .int .u64 (L3 d)] := hW0e ▸ (by repeat' (first | (with_reducible assumption) | (with_reducible refine Own.drawnN ?_ _) | (with_reducible refine Own.drawn ?_) | (with_reducible refine Own.made_at ?_; first | rfl | (simp; done) | omega | (simp; omega)) | (with_reducible refine Own.more ?_ _) | (with_reducible refine Own.apart ?_ ?_ _ _; rotate_left; first | omega | (simp; done) | (simp; omega)) | (refine Own.put ?_ _ _)))
  have hW0 : Below w.heap.size w W0 := hW0e ▸ (by repeat' (first | (with_reducible exact Below.refl _ _) | (with_reducible assumption) | (with_reducible refine below_drewN ?_ _) | (with_reducible refine Below.drew ?_) | (with_reducible refine Below.alloc ?_ ?_ _) | (with_reducible refine Below.setCell ?_ ?_ _) | (with_reducible refine then_ ?_ (by with_reducible assumption) ?_) | (with_reducible exact Nat.le_refl _) | (with_reducible exact Nat.le_succ _) | (with_reducible exact Nat.le_succ_of_le (by with_reducible assumption)) | omega | (simp; done) | (simp; omega) | (exact Nat.le_succ _) | (exact Nat.le_succ_of_le (by with_reducible assumption))))
  clear hW0e
  have z0 := ow1.in_
  rcases Bool.eq_false_or_eq_true (decide ((sgnZ d) ≤ 0)) with t1 | t1
  · have t1_ := Lib.hid t1
    clear t1
    go_upto_region 1 with fail
    refine region_memo_f (B := W0.heap.size) (L := .val (.pointer (some ⟨w.heap.size, 4, none⟩)) :: .val (.agg #[.int .u64 (L0 d), .int .u64 (L1 d), .int .u64 (L2 d), .int .u64 (L3 d)]) :: .val (.int .i64 (sgnZ d)) :: .val (.bool true) :: []) (by kernel_rfl) (Nat.le_refl _) ((by exact trivial))
      ⟨fun a w R => fa_R_1 (R.slot 1 rfl), fun a w R => ld_W (R.val 0) (R.keep ow1 trivial) rfl rfl rfl rfl, fun a w R => cl_t (enter_at Tryd.func40) (R.val 1) (sign_b _ hd _), fun a w R => c_leq_tk (R.val 2) (Tryd.underlying3) t1_.out, trivial⟩ (fun act_ W1 I => ?_)
    rw [I.act [(5, .pointer (some ⟨w.heap.size, 4, none⟩)), (6, .agg #[.int .u64 (L0 d), .int .u64 (L1 d), .int .u64 (L2 d), .int .u64 (L3 d)]), (7, .int .i64 (sgnZ d)), (8, .bool true)]
      ⟨I.val 0, I.val 1, I.val 2, I.val 3, trivial⟩ rfl]
    have sW1 : W0.heap.size ≤ W1.heap.size := I.below.size
    replace ow1 := I.keep ow1 trivial
    have hW1 : Below w.heap.size w W1 := then_ hW0 I.below hW0.size
    clear I
    simp only [List.foldl_cons, List.foldl_nil, List.setIfInBounds_toArray, List.set_cons_zero, List.set_cons_succ]
    go_upto_region 2 with fail
    refine region_memo_f (B := W1.heap.size) (L := .val (.bool false) :: []) (by kernel_rfl) (Nat.le_refl _) ((by exact trivial))
      ⟨fun a w R => asc, trivial⟩ (fun act_ W2 I => ?_)
    rw [I.act [(2, .bool false)]
      ⟨I.val 0, trivial⟩ rfl]
    have sW2 : W1.heap.size ≤ W2.heap.size := I.below.size
    replace ow1 := I.keep ow1 trivial
    have hW2 : Below w.heap.size w W2 := then_ hW1 I.below hW1.size
    clear I
    simp only [List.foldl_cons, List.foldl_nil, List.setIfInBounds_toArray, List.set_cons_zero, List.set_cons_succ]
    clear ow1
    go_wp2
    try simp only [setCell_drawn]
    refine bodyPost_ret (by first | (simp [results, Tryd.results43, go_sem]; done) | (simp [results, Tryd.results43, go_sem]; rfl)) rfl ⟨?_, hW2⟩
    exact retb_eq (right_1 t1_.out).symm
  · have t1_ := Lib.hid t1
    clear t1
    go_upto_region 1 with fail
    refine region_memo_f (B := W0.heap.size) (L := .val (.pointer (some ⟨w.heap.size, 4, none⟩)) :: .val (.agg #[.int .u64 (L0 d), .int .u64 (L1 d), .int .u64 (L2 d), .int .u64 (L3 d)]) :: .val (.int .i64 (sgnZ d)) :: .val (.bool false) :: []) (by kernel_rfl) (Nat.le_refl _) ((by exact trivial))
      ⟨fun a w R => fa_R_1 (R.slot 1 rfl), fun a w R => ld_W (R.val 0) (R.keep ow1 trivial) rfl rfl rfl rfl, fun a w R => cl_t (enter_at Tryd.func40) (R.val 1) (sign_b _ hd _), fun a w R => c_leq_tk (R.val 2) (Tryd.underlying3) t1_.out, trivial⟩ (fun act_ W1 I => ?_)
    rw [I.act [(5, .pointer (some ⟨w.heap.size, 4, none⟩)), (6, .agg #[.int .u64 (L0 d), .int .u64 (L1 d), .int .u64 (L2 d), .int .u64 (L3 d)]), (7, .int .i64 (sgnZ d)), (8, .bool false)]
      ⟨I.val 0, I.val 1, I.val 2, I.val 3, trivial⟩ rfl]
    have sW1 : W0.heap.size ≤ W1.heap.size := I.below.size
    replace ow1 := I.keep ow1 trivial
    have hW1 : Below w.heap.size w W1 := then_ hW0 I.below hW0.size
    clear I
    simp only [List.foldl_cons, List.foldl_nil, List.setIfInBounds_toArray, List.set_cons_zero, List.set_cons_succ]
    go_upto_region 3 with fail
    refine region_memo_f (B := W1.heap.size) (L := .val (.pointer (some ⟨w.heap.size, 0, none⟩)) :: .val (.agg #[.int .u64 (L0 n), .int .u64 (L1 n), .int .u64 (L2 n), .int .u64 (L3 n)]) :: .val (.pointer (some ⟨w.heap.size, 4, none⟩)) :: .val (.agg #[.int .u64 (L0 d), .int .u64 (L1 d), .int .u64 (L2 d), .int .u64 (L3 d)]) :: .val (.tuple #[.agg #[.int .u64 (L0 g), .int .u64 (L1 g), .int .u64 (L2 g), .int .u64 (L3 g)], .int .i64 er]) :: .val (.tuple #[.agg #[.int .u64 (L0 g), .int .u64 (L1 g), .int .u64 (L2 g), .int .u64 (L3 g)], .int .i64 er]) :: .val (.agg #[.int .u64 (L0 g), .int .u64 (L1 g), .int .u64 (L2 g), .int .u64 (L3 g)]) :: .val (.int .i64 er) :: .blk 24 4 :: .put 3 24 #[.int .u64 (L0 g), .int .u64 (L1 g), .int .u64 (L2 g), .int .u64 (L3 g)] :: .val (.int .i64 er) :: []) (by kernel_rfl) (Nat.le_refl _) ((by exact trivial))
      ⟨fun a w R => fa_R_0 (R.slot 1 rfl), fun a w R => ld_W (R.val 0) (R.keep ow1 trivial) rfl rfl rfl rfl, fun a w R => fa_R_1 (R.slot 1 rfl), fun a w R => ld_W (R.val 2) (R.keep ow1 trivial) rfl rfl rfl rfl, fun a w R => cl_tt (enter_at Tryd.func39) (R.val 1) (R.val 3) (HG.out _), fun a w R => mv (R.val 4), fun a w R => ex0 (R.val 5), fun a w R => ex1 (R.val 5), fun a w R => al_W, fun a w R => sb_W (R.dep 8) (R.val 6), fun a w R => asg (R.val 7), trivial⟩ (fun act_ W2 I => ?_)
    obtain ⟨gb3, ew3, lw3, ow3⟩ := I.put 9 rfl rfl
    rw [I.act [(10, .pointer (some ⟨w.heap.size, 0, none⟩)), (11, .agg #[.int .u64 (L0 n), .int .u64 (L1 n), .int .u64 (L2 n), .int .u64 (L3 n)]), (12, .pointer (some ⟨w.heap.size, 4, none⟩)), (13, .agg #[.int .u64 (L0 d), .int .u64 (L1 d), .int .u64 (L2 d), .int .u64 (L3 d)]), (14, .tuple #[.agg #[.int .u64 (L0 g), .int .u64 (L1 g), .int .u64 (L2 g), .int .u64 (L3 g)], .int .i64 er]), (9, .tuple #[.agg #[.int .u64 (L0 g), .int .u64 (L1 g), .int .u64 (L2 g), .int .u64 (L3 g)], .int .i64 er]), (15, .agg #[.int .u64 (L0 g), .int .u64 (L1 g), .int .u64 (L2 g), .int .u64 (L3 g)]), (16, .int .i64 er), (3, .pointer (some ⟨gb3, 0, none⟩)), (4, .int .i64 er)]
      ⟨I.val 0, I.val 1, I.val 2, I.val 3, I.val 4, I.val 5, I.val 6, I.val 7, ew3, I.val 10, trivial⟩ rfl]
    change W1.heap.size ≤ gb3 at lw3
    have sW2 : W1.heap.size ≤ W2.heap.size := I.below.size
    replace ow1 := I.keep ow1 trivial
    have hW2 : Below w.heap.size w W2 := then_ hW1 I.below hW1.size
    clear ew3
    clear I
    simp only [List.foldl_cons, List.foldl_nil, List.setIfInBounds_toArray, List.set_cons_zero, List.set_cons_succ]
    rcases Bool.eq_false_or_eq_true ((er == 0)) with t2 | t2
    · have t2_ := Lib.hid t2
      clear t2
      rcases Bool.eq_false_or_eq_true (decide (g = 1)) with t3 | t3
      · have t3_ := Lib.hid t3
        clear t3
        go_upto_region 4 with fail
        refine region_memo (B := W2.heap.size) (L := .val (.int .i64 er) :: .val (.bool true) :: .val (.bool true) :: .val (.agg #[.int .u64 (L0 g), .int .u64 (L1 g), .int .u64 (L2 g), .int .u64 (L3 g)]) :: .val (.agg #[.int .u64 (L0 1), .int .u64 (L1 1), .int .u64 (L2 1), .int .u64 (L3 1)]) :: .val (.bool true) :: .val (.bool true) :: .val (.bool true) :: []) (by kernel_rfl) (by kernel_rfl) (Nat.le_refl _) ((by exact trivial))
          ⟨fun a w R => mv (R.slot 4 rfl), fun a w R => c_eql_tk (R.val 0) (Tryd.underlying27) t2_.out, fun a w R => mv (R.val 1), fun a w R => ld_W (R.slot 3 rfl) (R.keep ow3.drawn trivial) rfl rfl rfl rfl, fun a w R => cl_k (enter_at Tryd.func20)  (of_b 1 (by decide) (by decide) _), fun a w R => (e_eql_W (R.val 3) (R.val 4) (fun w => (eq_fit (a := g) (b := 1) hg ⟨by decide, by decide⟩ w).trans (by rw [t3_.out]))), fun a w R => pickt (R.val 2) (R.val 5), fun a w R => asg (R.val 6), trivial⟩ (fun act_ W3 I => ?_)
        rw [I.act [(17, .int .i64 er), (18, .bool true), (19, .bool true), (20, .agg #[.int .u64 (L0 g), .int .u64 (L1 g), .int .u64 (L2 g), .int .u64 (L3 g)]), (21, .agg #[.int .u64 (L0 1), .int .u64 (L1 1), .int .u64 (L2 1), .int .u64 (L3 1)]), (22, .bool true), (23, .bool true), (2, .bool true)]
          ⟨I.val 0, I.val 1, I.val 2, I.val 3, I.val 4, I.val 5, I.val 6, I.val 7, trivial⟩ rfl]
        have sW3 : W2.heap.size ≤ W3.heap.size := I.below.size
        replace ow1 := I.keep ow1.drawn trivial
        replace ow3 := I.keep ow3.drawn trivial
        have hW3 : Below w.heap.size w W3 := then_ hW2.drew I.below hW2.size
        clear I
        simp only [List.foldl_cons, List.foldl_nil, List.setIfInBounds_toArray, List.set_cons_zero, List.set_cons_succ]
        clear ow1 ow3
        go_wp2
        try simp only [setCell_drawn]
        refine bodyPost_ret (by first | (simp [results, Tryd.results43, go_sem]; done) | (simp [results, Tryd.results43, go_sem]; rfl)) rfl ⟨?_, hW3⟩
        exact retb_eq (right_3 HX.out t1_.out t2_.out t3_.out).symm
      · have t3_ := Lib.hid t3
        clear t3
        go_upto_region 4 with fail
        refine region_memo (B := W2.heap.size) (L := .val (.int .i64 er) :: .val (.bool true) :: .val (.bool true) :: .val (.agg #[.int .u64 (L0 g), .int .u64 (L1 g), .int .u64 (L2 g), .int .u64 (L3 g)]) :: .val (.agg #[.int .u64 (L0 1), .int .u64 (L1 1), .int .u64 (L2 1), .int .u64 (L3 1)]) :: .val (.bool false) :: .val (.bool false) :: .val (.bool false) :: []) (by kernel_rfl) (by kernel_rfl) (Nat.le_refl _) ((by exact trivial))
          ⟨fun a w R => mv (R.slot 4 rfl), fun a w R => c_eql_tk (R.val 0) (Tryd.underlying27) t2_.out, fun a w R => mv (R.val 1), fun a w R => ld_W (R.slot 3 rfl) (R.keep ow3.drawn trivial) rfl rfl rfl rfl, fun a w R => cl_k (enter_at Tryd.func20)  (of_b 1 (by decide) (by decide) _), fun a w R => (e_eql_W (R.val 3) (R.val 4) (fun w => (eq_fit (a := g) (b := 1) hg ⟨by decide, by decide⟩ w).trans (by rw [t3_.out]))), fun a w R => pickt (R.val 2) (R.val 5), fun a w R => asg (R.val 6), trivial⟩ (fun act_ W3 I => ?_)
        rw [I.act [(17, .int .i64 er), (18, .bool true), (19, .bool true), (20, .agg #[.int .u64 (L0 g), .int .u64 (L1 g), .int .u64 (L2 g), .int .u64 (L3 g)]), (21, .agg #[.int .u64 (L0 1), .int .u64 (L1 1), .int .u64 (L2 1), .int .u64 (L3 1)]), (22, .bool false), (23, .bool false), (2, .bool false)]
          ⟨I.val 0, I.val 1, I.val 2, I.val 3, I.val 4, I.val 5, I.val 6, I.val 7, trivial⟩ rfl]
        have sW3 : W2.heap.size ≤ W3.heap.size := I.below.size
        replace ow1 := I.keep ow1.drawn trivial
        replace ow3 := I.keep ow3.drawn trivial
        have hW3 : Below w.heap.size w W3 := then_ hW2.drew I.below hW2.size
        clear I
        simp only [List.foldl_cons, List.foldl_nil, List.setIfInBounds_toArray, List.set_cons_zero, List.set_cons_succ]
        clear ow1 ow3
        go_wp2
        try simp only [setCell_drawn]
        refine bodyPost_ret (by first | (simp [results, Tryd.results43, go_sem]; done) | (simp [results, Tryd.results43, go_sem]; rfl)) rfl ⟨?_, hW3⟩
        exact retb_eq (right_3 HX.out t1_.out t2_.out t3_.out).symm
    · have t2_ := Lib.hid t2
      clear t2
      go_upto_region 4 with fail
      refine region_memo (B := W2.heap.size) (L := .val (.int .i64 er) :: .val (.bool false) :: .val (.bool false) :: .skip :: .skip :: .skip :: .val (.bool false) :: .val (.bool false) :: []) (by kernel_rfl) (by kernel_rfl) (Nat.le_refl _) ((by exact trivial))
        ⟨fun a w R => mv (R.slot 4 rfl), fun a w R => c_eql_tk (R.val 0) (Tryd.underlying27) t2_.out, fun a w R => mv (R.val 1), fun a w R => True.intro, fun a w R => True.intro, fun a w R => True.intro, fun a w R => pickf (R.val 2) (R.goneS 5), fun a w R => asg (R.val 6), trivial⟩ (fun act_ W3 I => ?_)
      rw [I.act [(17, .int .i64 er), (18, .bool false), (19, .bool false), (20, undef), (21, undef), (22, undef), (23, .bool false), (2, .bool false)]
        ⟨I.val 0, I.val 1, I.val 2, I.gone 3, I.gone 4, I.gone 5, I.val 6, I.val 7, trivial⟩ rfl]
      have sW3 : W2.heap.size ≤ W3.heap.size := I.below.size
      replace ow1 := I.keep ow1.drawn trivial
      replace ow3 := I.keep ow3.drawn trivial
      have hW3 : Below w.heap.size w W3 := then_ hW2.drew I.below hW2.size
      clear I
      simp only [List.foldl_cons, List.foldl_nil, List.setIfInBounds_toArray, List.set_cons_zero, List.set_cons_succ]
      clear ow1 ow3
      go_wp2
      try simp only [setCell_drawn]
      refine bodyPost_ret (by first | (simp [results, Tryd.results43, go_sem]; done) | (simp [results, Tryd.results43, go_sem]; rfl)) rfl ⟨?_, hW3⟩
      exact retb_eq (right_2 HX.out t2_.out).symm
theorem Right_is {n d : Int} {b : Bool} (hn : Fit n) (hd : Fit d) (h : decide (Rgt n d) = b) (w : World) : Calls Tryd.prog 43 #[.agg #[.int .u64 (L0 n), .int .u64 (L1 n), .int .u64 (L2 n), .int .u64 (L3 n), .int .u64 (L0 d), .int .u64 (L1 d), .int .u64 (L2 d), .int .u64 (L3 d)]] w fun e w' => e = .returned (.bool b) ∧ Below w.heap.size w w' := h ▸ Right_any hn hd w
/-- what Make answers, by the errors of its steps -/
def mkE (p q eg e1 e2 : Int) : Value := if (eg == 0) then (if (e1 == 0) then (if (e2 == 0) then .tuple #[.agg #[.int .u64 (L0 p), .int .u64 (L1 p), .int .u64 (L2 p), .int .u64 (L3 p), .int .u64 (L0 q), .int .u64 (L1 q), .int .u64 (L2 q), .int .u64 (L3 q)], .int .i64 0] else .tuple #[.agg #[.int .u64 (L0 0), .int .u64 (L1 0), .int .u64 (L2 0), .int .u64 (L3 0), .int .u64 (L0 0), .int .u64 (L1 0), .int .u64 (L2 0), .int .u64 (L3 0)], .int .i64 e2]) else .tuple #[.agg #[.int .u64 (L0 0), .int .u64 (L1 0), .int .u64 (L2 0), .int .u64 (L3 0), .int .u64 (L0 0), .int .u64 (L1 0), .int .u64 (L2 0), .int .u64 (L3 0)], .int .i64 e1]) else .tuple #[.agg #[.int .u64 (L0 0), .int .u64 (L1 0), .int .u64 (L2 0), .int .u64 (L3 0), .int .u64 (L0 0), .int .u64 (L1 0), .int .u64 (L2 0), .int .u64 (L3 0)], .int .i64 eg]
set_option maxHeartbeats 16000000 in
set_option maxRecDepth 20000 in
theorem Make_neg {n d g m p q r1 r2 eg e1 e2 : Int} (hn : Fit n) (hd : Fit d) (hg : Fit g) (hd0 : d ≠ 0) (hs : decide (sgnZ d < 0) = true) (HG1 : (∀ w, Calls Tryd.prog 39 #[.agg #[.int .u64 (L0 n), .int .u64 (L1 n), .int .u64 (L2 n), .int .u64 (L3 n)], .agg #[.int .u64 (L0 d), .int .u64 (L1 d), .int .u64 (L2 d), .int .u64 (L3 d)]] w fun e w' => e = .returned (.tuple #[.agg #[.int .u64 (L0 g), .int .u64 (L1 g), .int .u64 (L2 g), .int .u64 (L3 g)], .int .i64 eg]) ∧ Below w.heap.size w w')) (HM1 : (∀ w, Calls Tryd.prog 41 #[.agg #[.int .u64 (L0 g), .int .u64 (L1 g), .int .u64 (L2 g), .int .u64 (L3 g)]] w fun e w' => e = .returned (.tuple #[.agg #[.int .u64 (L0 m), .int .u64 (L1 m), .int .u64 (L2 m), .int .u64 (L3 m)], .int .i64 0]) ∧ Below w.heap.size w w')) (H11 : (∀ w, Calls Tryd.prog 42 #[.agg #[.int .u64 (L0 n), .int .u64 (L1 n), .int .u64 (L2 n), .int .u64 (L3 n)], .agg #[.int .u64 (L0 m), .int .u64 (L1 m), .int .u64 (L2 m), .int .u64 (L3 m)]] w fun e w' => e = .returned (.tuple #[.agg #[.int .u64 (L0 p), .int .u64 (L1 p), .int .u64 (L2 p), .int .u64 (L3 p)], .agg #[.int .u64 (L0 r1), .int .u64 (L1 r1), .int .u64 (L2 r1), .int .u64 (L3 r1)], .int .i64 e1]) ∧ Below w.heap.size w w')) (H21 : (∀ w, Calls Tryd.prog 42 #[.agg #[.int .u64 (L0 d), .int .u64 (L1 d), .int .u64 (L2 d), .int .u64 (L3 d)], .agg #[.int .u64 (L0 m), .int .u64 (L1 m), .int .u64 (L2 m), .int .u64 (L3 m)]] w fun e w' => e = .returned (.tuple #[.agg #[.int .u64 (L0 q), .int .u64 (L1 q), .int .u64 (L2 q), .int .u64 (L3 q)], .agg #[.int .u64 (L0 r2), .int .u64 (L1 r2), .int .u64 (L2 r2), .int .u64 (L3 r2)], .int .i64 e2]) ∧ Below w.heap.size w w')) (w : World) : Calls Tryd.prog 19 #[.agg #[.int .u64 (L0 n), .int .u64 (L1 n), .int .u64 (L2 n), .int .u64 (L3 n)], .agg #[.int .u64 (L0 d), .int .u64 (L1 d), .int .u64 (L2 d), .int .u64 (L3 d)]] w fun e w' => e = .returned (mkE p q eg e1 e2) ∧ Below w.heap.size w w' := by
  have HG := Lib.hid HG1
  have HM := Lib.hid HM1
  have H1 := Lib.hid H11
  have H2 := Lib.hid H21
  have HS := Lib.hid hs
  have HD := Lib.hid (decide_eq_false hd0)
  clear HG1 HM1 H11 H21 hs hd0
  go_enter Tryd.func19, Tryd.ntmps19
  go_upto_region 1 with fail
  go_name_world W0 hW0e
  have ow2 : Own W0 w.heap.size 24 #[.int .u64 (L0 n), .int .u64 (L1 n), .int .u64 (L2 n), .int .u64 (L3 n)] := hW0e ▸ (by repeat' (first | (with_reducible assumption) | (with_reducible refine Own.drawnN ?_ _) | (with_reducible refine Own.drawn ?_) | (with_reducible refine Own.made_at ?_; first | rfl | (simp; done) | omega | (simp; omega)) | (with_reducible refine Own.more ?_ _) | (with_reducible refine Own.apart ?_ ?_ _ _; rotate_left; first | omega | (simp; done) | (simp; omega)) | (refine Own.put ?_ _ _)))
  have ow3 : Own W0 (w.heap.size + 1) 24 #[.int .u64 (L0 d), .int .u64 (L1 d), .int .u64 (L2 d), .int .u64 (L3 d)] := hW0e ▸ (by repeat' (first | (with_reducible assumption) | (with_reducible refine Own.drawnN ?_ _) | (with_reducible refine Own.drawn ?_) | (with_reducible refine Own.made_at ?_; first | rfl | (simp; done) | omega | (simp; omega)) | (with_reducible refine Own.more ?_ _) | (with_reducible refine Own.apart ?_ ?_ _ _; rotate_left; first | omega | (simp; done) | (simp; omega)) | (refine Own.put ?_ _ _)))
  have ow4 : Own W0 (w.heap.size + 1 + 1) 26 #[.int .u64 0, .int .u64 0, .int .u64 0, .int .u64 0, .int .u64 0, .int .u64 0, .int .u64 0, .int .u64 0] := hW0e ▸ (by repeat' (first | (with_reducible assumption) | (with_reducible refine Own.drawnN ?_ _) | (with_reducible refine Own.drawn ?_) | (with_reducible refine Own.made_at ?_; first | rfl | (simp; done) | omega | (simp; omega)) | (with_reducible refine Own.more ?_ _) | (with_reducible refine Own.apart ?_ ?_ _ _; rotate_left; first | omega | (simp; done) | (simp; omega)) | (refine Own.put ?_ _ _)))
  have hW0 : Below w.heap.size w W0 := hW0e ▸ (by repeat' (first | (with_reducible exact Below.refl _ _) | (with_reducible assumption) | (with_reducible refine below_drewN ?_ _) | (with_reducible refine Below.drew ?_) | (with_reducible refine Below.alloc ?_ ?_ _) | (with_reducible refine Below.setCell ?_ ?_ _) | (with_reducible refine then_ ?_ (by with_reducible assumption) ?_) | (with_reducible exact Nat.le_refl _) | (with_reducible exact Nat.le_succ _) | (with_reducible exact Nat.le_succ_of_le (by with_reducible assumption)) | omega | (simp; done) | (simp; omega) | (exact Nat.le_succ _) | (exact Nat.le_succ_of_le (by with_reducible assumption))))
  clear hW0e
  have z0 := ow4.in_
  go_upto_region 1 with fail
  refine region_memo_f (B := W0.heap.size) (L := .val (.agg #[.int .u64 (L0 d), .int .u64 (L1 d), .int .u64 (L2 d), .int .u64 (L3 d)]) :: .val (.agg #[.int .u64 0, .int .u64 0, .int .u64 0, .int .u64 0]) :: .val (.bool false) :: []) (by kernel_rfl) (Nat.le_refl _) ((by exact trivial))
    ⟨fun a w R => ld_W (R.slot 3 rfl) (R.keep ow3 trivial) rfl rfl rfl rfl, fun a w R => bd0_W, fun a w R => (e_eql_W (R.val 0) (R.val 1) (fun w => (eq_fit (a := d) (b := 0) hd ⟨by decide, by decide⟩ w).trans (by rw [HD.out]))), trivial⟩ (fun act_ W1 I => ?_)
  rw [I.act [(12, .agg #[.int .u64 (L0 d), .int .u64 (L1 d), .int .u64 (L2 d), .int .u64 (L3 d)]), (13, .agg #[.int .u64 0, .int .u64 0, .int .u64 0, .int .u64 0]), (14, .bool false)]
    ⟨I.val 0, I.val 1, I.val 2, trivial⟩ rfl]
  have sW1 : W0.heap.size ≤ W1.heap.size := I.below.size
  replace ow2 := I.keep ow2 trivial
  replace ow3 := I.keep ow3 trivial
  replace ow4 := I.keep ow4 trivial
  have hW1 : Below w.heap.size w W1 := then_ hW0 I.below hW0.size
  clear I
  simp only [List.foldl_cons, List.foldl_nil, List.setIfInBounds_toArray, List.set_cons_zero, List.set_cons_succ]
  go_upto_region 3 with fail
  refine region_memo_f (B := W1.heap.size) (L := .val (.agg #[.int .u64 (L0 n), .int .u64 (L1 n), .int .u64 (L2 n), .int .u64 (L3 n)]) :: .val (.agg #[.int .u64 (L0 d), .int .u64 (L1 d), .int .u64 (L2 d), .int .u64 (L3 d)]) :: .val (.tuple #[.agg #[.int .u64 (L0 g), .int .u64 (L1 g), .int .u64 (L2 g), .int .u64 (L3 g)], .int .i64 eg]) :: .val (.tuple #[.agg #[.int .u64 (L0 g), .int .u64 (L1 g), .int .u64 (L2 g), .int .u64 (L3 g)], .int .i64 eg]) :: .val (.agg #[.int .u64 (L0 g), .int .u64 (L1 g), .int .u64 (L2 g), .int .u64 (L3 g)]) :: .val (.int .i64 eg) :: .blk 24 4 :: .put 6 24 #[.int .u64 (L0 g), .int .u64 (L1 g), .int .u64 (L2 g), .int .u64 (L3 g)] :: .val (.int .i64 eg) :: []) (by kernel_rfl) (Nat.le_refl _) ((by exact trivial))
    ⟨fun a w R => ld_W (R.slot 2 rfl) (R.keep ow2 trivial) rfl rfl rfl rfl, fun a w R => ld_W (R.slot 3 rfl) (R.keep ow3 trivial) rfl rfl rfl rfl, fun a w R => cl_tt (enter_at Tryd.func39) (R.val 0) (R.val 1) (HG.out _), fun a w R => mv (R.val 2), fun a w R => ex0 (R.val 3), fun a w R => ex1 (R.val 3), fun a w R => al_W, fun a w R => sb_W (R.dep 6) (R.val 4), fun a w R => asg (R.val 5), trivial⟩ (fun act_ W2 I => ?_)
  obtain ⟨gb6, ew6, lw6, ow6⟩ := I.put 7 rfl rfl
  rw [I.act [(17, .agg #[.int .u64 (L0 n), .int .u64 (L1 n), .int .u64 (L2 n), .int .u64 (L3 n)]), (18, .agg #[.int .u64 (L0 d), .int .u64 (L1 d), .int .u64 (L2 d), .int .u64 (L3 d)]), (19, .tuple #[.agg #[.int .u64 (L0 g), .int .u64 (L1 g), .int .u64 (L2 g), .int .u64 (L3 g)], .int .i64 eg]), (16, .tuple #[.agg #[.int .u64 (L0 g), .int .u64 (L1 g), .int .u64 (L2 g), .int .u64 (L3 g)], .int .i64 eg]), (20, .agg #[.int .u64 (L0 g), .int .u64 (L1 g), .int .u64 (L2 g), .int .u64 (L3 g)]), (21, .int .i64 eg), (6, .pointer (some ⟨gb6, 0, none⟩)), (7, .int .i64 eg)]
    ⟨I.val 0, I.val 1, I.val 2, I.val 3, I.val 4, I.val 5, ew6, I.val 8, trivial⟩ rfl]
  change W1.heap.size ≤ gb6 at lw6
  have sW2 : W1.heap.size ≤ W2.heap.size := I.below.size
  replace ow2 := I.keep ow2 trivial
  replace ow3 := I.keep ow3 trivial
  replace ow4 := I.keep ow4 trivial
  have hW2 : Below w.heap.size w W2 := then_ hW1 I.below hW1.size
  clear ew6
  clear I
  simp only [List.foldl_cons, List.foldl_nil, List.setIfInBounds_toArray, List.set_cons_zero, List.set_cons_succ]
  rcases Bool.eq_false_or_eq_true ((eg == 0)) with t1 | t1
  · have t1_ := Lib.hid t1
    clear t1
    go_upto_region 4 with fail
    refine region_memo_f (B := W2.heap.size) (L := .val (.int .i64 eg) :: .val (.bool false) :: []) (by kernel_rfl) (Nat.le_refl _) ((by exact trivial))
      ⟨fun a w R => mv (R.slot 7 rfl), fun a w R => c_neq_tk (R.val 0) (Tryd.underlying27) (by rw [t1_.out]; rfl), trivial⟩ (fun act_ W3 I => ?_)
    rw [I.act [(22, .int .i64 eg), (23, .bool false)]
      ⟨I.val 0, I.val 1, trivial⟩ rfl]
    have sW3 : W2.heap.size ≤ W3.heap.size := I.below.size
    replace ow2 := I.keep ow2 trivial
    replace ow3 := I.keep ow3 trivial
    replace ow4 := I.keep ow4 trivial
    replace ow6 := I.keep ow6 trivial
    have hW3 : Below w.heap.size w W3 := then_ hW2 I.below hW2.size
    clear I
    simp only [List.foldl_cons, List.foldl_nil, List.setIfInBounds_toArray, List.set_cons_zero, List.set_cons_succ]
    go_upto_region 6 with fail
    refine region_memo_f (B := W3.heap.size) (L := .val (.agg #[.int .u64 (L0 d), .int .u64 (L1 d), .int .u64 (L2 d), .int .u64 (L3 d)]) :: .val (.int .i64 (sgnZ d)) :: .val (.bool true) :: []) (by kernel_rfl) (Nat.le_refl _) ((by exact trivial))
      ⟨fun a w R => ld_W (R.slot 3 rfl) (R.keep ow3 trivial) rfl rfl rfl rfl, fun a w R => cl_t (enter_at Tryd.func40) (R.val 0) (sign_b _ hd _), fun a w R => c_lss_tk (R.val 1) (Tryd.underlying3) HS.out, trivial⟩ (fun act_ W4 I => ?_)
    rw [I.act [(26, .agg #[.int .u64 (L0 d), .int .u64 (L1 d), .int .u64 (L2 d), .int .u64 (L3 d)]), (27, .int .i64 (sgnZ d)), (28, .bool true)]
      ⟨I.val 0, I.val 1, I.val 2, trivial⟩ rfl]
    have sW4 : W3.heap.size ≤ W4.heap.size := I.below.size
    replace ow2 := I.keep ow2 trivial
    replace ow3 := I.keep ow3 trivial
    replace ow4 := I.keep ow4 trivial
    replace ow6 := I.keep ow6 trivial
    have hW4 : Below w.heap.size w W4 := then_ hW3 I.below hW3.size
    clear I
    simp only [List.foldl_cons, List.foldl_nil, List.setIfInBounds_toArray, List.set_cons_zero, List.set_cons_succ]
    go_upto_region 7 with fail
    refine region_memo_f (B := w.heap.size) (L := .val (.agg #[.int .u64 (L0 g), .int .u64 (L1 g), .int .u64 (L2 g), .int .u64 (L3 g)]) :: .val (.tuple #[.agg #[.int .u64 (L0 m), .int .u64 (L1 m), .int .u64 (L2 m), .int .u64 (L3 m)], .int .i64 0]) :: .val (.tuple #[.agg #[.int .u64 (L0 m), .int .u64 (L1 m), .int .u64 (L2 m), .int .u64 (L3 m)], .int .i64 0]) :: .val (.agg #[.int .u64 (L0 m), .int .u64 (L1 m), .int .u64 (L2 m), .int .u64 (L3 m)]) :: .val (.int .i64 0) :: .sto gb6 24 #[.int .u64 (L0 m), .int .u64 (L1 m), .int .u64 (L2 m), .int .u64 (L3 m)] :: []) (by kernel_rfl) (hW4.size) (Olds.v (Olds.v (Olds.v (Olds.v (Olds.v (Olds.s (by omega) ow6.in_ (by repeat' (first | exact trivial | refine Off.v ?_ | refine Off.k ?_ | refine Off.b ?_ | refine Off.n ?_ | refine Off.p ?_ | refine Off.s ?_ ?_ | omega)) (trivial)))))))
      ⟨fun a w R => ld_W (R.slot 6 rfl) (R.old 5 rfl rfl (by kernel_rfl) ow6) rfl rfl rfl rfl, fun a w R => cl_t (enter_at Tryd.func41) (R.val 0) (HM.out _), fun a w R => mv (R.val 1), fun a w R => ex0 (R.val 2), fun a w R => ex1 (R.val 2), fun a w R => so_W (R.slot 6 rfl) (R.own rfl ow6) rfl (R.val 3), trivial⟩ (fun act_ W5 I => ?_)
    rw [I.act [(30, .agg #[.int .u64 (L0 g), .int .u64 (L1 g), .int .u64 (L2 g), .int .u64 (L3 g)]), (31, .tuple #[.agg #[.int .u64 (L0 m), .int .u64 (L1 m), .int .u64 (L2 m), .int .u64 (L3 m)], .int .i64 0]), (29, .tuple #[.agg #[.int .u64 (L0 m), .int .u64 (L1 m), .int .u64 (L2 m), .int .u64 (L3 m)], .int .i64 0]), (32, .agg #[.int .u64 (L0 m), .int .u64 (L1 m), .int .u64 (L2 m), .int .u64 (L3 m)]), (33, .int .i64 0)]
      ⟨I.val 0, I.val 1, I.val 2, I.val 3, I.val 4, trivial⟩ rfl]
    have sW5 : W4.heap.size ≤ W5.heap.size := I.below.size
    replace ow2 := I.keep ow2 (by repeat' (first | exact trivial | refine Off.v ?_ | refine Off.k ?_ | refine Off.b ?_ | refine Off.n ?_ | refine Off.p ?_ | refine Off.s ?_ ?_ | omega))
    replace ow3 := I.keep ow3 (by repeat' (first | exact trivial | refine Off.v ?_ | refine Off.k ?_ | refine Off.b ?_ | refine Off.n ?_ | refine Off.p ?_ | refine Off.s ?_ ?_ | omega))
    replace ow4 := I.keep ow4 (by repeat' (first | exact trivial | refine Off.v ?_ | refine Off.k ?_ | refine Off.b ?_ | refine Off.n ?_ | refine Off.p ?_ | refine Off.s ?_ ?_ | omega))
    replace ow6 := I.sto 5 rfl rfl
    have hW5 : Below w.heap.size w W5 := hW4.trans I.below
    clear I
    simp only [List.foldl_cons, List.foldl_nil, List.setIfInBounds_toArray, List.set_cons_zero, List.set_cons_succ]
    go_upto_region 8 with fail
    refine region_memo_f (B := W5.heap.size) (L := .val (.agg #[.int .u64 (L0 n), .int .u64 (L1 n), .int .u64 (L2 n), .int .u64 (L3 n)]) :: .val (.agg #[.int .u64 (L0 m), .int .u64 (L1 m), .int .u64 (L2 m), .int .u64 (L3 m)]) :: .val (.tuple #[.agg #[.int .u64 (L0 p), .int .u64 (L1 p), .int .u64 (L2 p), .int .u64 (L3 p)], .agg #[.int .u64 (L0 r1), .int .u64 (L1 r1), .int .u64 (L2 r1), .int .u64 (L3 r1)], .int .i64 e1]) :: .val (.tuple #[.agg #[.int .u64 (L0 p), .int .u64 (L1 p), .int .u64 (L2 p), .int .u64 (L3 p)], .agg #[.int .u64 (L0 r1), .int .u64 (L1 r1), .int .u64 (L2 r1), .int .u64 (L3 r1)], .int .i64 e1]) :: .val (.agg #[.int .u64 (L0 p), .int .u64 (L1 p), .int .u64 (L2 p), .int .u64 (L3 p)]) :: .val (.agg #[.int .u64 (L0 r1), .int .u64 (L1 r1), .int .u64 (L2 r1), .int .u64 (L3 r1)]) :: .val (.int .i64 e1) :: .blk 24 4 :: .blk 24 4 :: .put 8 24 #[.int .u64 (L0 p), .int .u64 (L1 p), .int .u64 (L2 p), .int .u64 (L3 p)] :: .put 9 24 #[.int .u64 (L0 r1), .int .u64 (L1 r1), .int .u64 (L2 r1), .int .u64 (L3 r1)] :: .val (.int .i64 e1) :: []) (by kernel_rfl) (Nat.le_refl _) ((by exact trivial))
      ⟨fun a w R => ld_W (R.slot 2 rfl) (R.keep ow2 trivial) rfl rfl rfl rfl, fun a w R => ld_W (R.slot 6 rfl) (R.keep ow6 trivial) rfl rfl rfl rfl, fun a w R => cl_tt (enter_at Tryd.func42) (R.val 0) (R.val 1) (H1.out _), fun a w R => mv (R.val 2), fun a w R => x30 (R.val 3), fun a w R => x31 (R.val 3), fun a w R => x32 (R.val 3), fun a w R => al_W, fun a w R => al_W, fun a w R => sb_W (R.dep 7) (R.val 4), fun a w R => sb_W (R.dep 8) (R.val 5), fun a w R => asg (R.val 6), trivial⟩ (fun act_ W6 I => ?_)
    obtain ⟨gb8, ew8, lw8, ow8⟩ := I.put 9 rfl rfl
    obtain ⟨gb9, ew9, lw9, ow9⟩ := I.put 10 rfl rfl
    have nw8_9 := I.apart2 7 8 rfl rfl (by omega) rfl rfl rfl rfl ew8 ew9
    rw [I.act [(35, .agg #[.int .u64 (L0 n), .int .u64 (L1 n), .int .u64 (L2 n), .int .u64 (L3 n)]), (36, .agg #[.int .u64 (L0 m), .int .u64 (L1 m), .int .u64 (L2 m), .int .u64 (L3 m)]), (37, .tuple #[.agg #[.int .u64 (L0 p), .int .u64 (L1 p), .int .u64 (L2 p), .int .u64 (L3 p)], .agg #[.int .u64 (L0 r1), .int .u64 (L1 r1), .int .u64 (L2 r1), .int .u64 (L3 r1)], .int .i64 e1]), (34, .tuple #[.agg #[.int .u64 (L0 p), .int .u64 (L1 p), .int .u64 (L2 p), .int .u64 (L3 p)], .agg #[.int .u64 (L0 r1), .int .u64 (L1 r1), .int .u64 (L2 r1), .int .u64 (L3 r1)], .int .i64 e1]), (38, .agg #[.int .u64 (L0 p), .int .u64 (L1 p), .int .u64 (L2 p), .int .u64 (L3 p)]), (39, .agg #[.int .u64 (L0 r1), .int .u64 (L1 r1), .int .u64 (L2 r1), .int .u64 (L3 r1)]), (40, .int .i64 e1), (8, .pointer (some ⟨gb8, 0, none⟩)), (9, .pointer (some ⟨gb9, 0, none⟩)), (7, .int .i64 e1)]
      ⟨I.val 0, I.val 1, I.val 2, I.val 3, I.val 4, I.val 5, I.val 6, ew8, ew9, I.val 11, trivial⟩ rfl]
    change W5.heap.size ≤ gb8 at lw8
    change W5.heap.size ≤ gb9 at lw9
    have sW6 : W5.heap.size ≤ W6.heap.size := I.below.size
    replace ow2 := I.keep ow2 trivial
    replace ow3 := I.keep ow3 trivial
    replace ow4 := I.keep ow4 trivial
    replace ow6 := I.keep ow6 trivial
    have hW6 : Below w.heap.size w W6 := then_ hW5 I.below hW5.size
    clear ew8 ew9
    clear I
    simp only [List.foldl_cons, List.foldl_nil, List.setIfInBounds_toArray, List.set_cons_zero, List.set_cons_succ]
    rcases Bool.eq_false_or_eq_true ((e1 == 0)) with t2 | t2
    · have t2_ := Lib.hid t2
      clear t2
      go_upto_region 9 with fail
      refine region_memo_f (B := W6.heap.size) (L := .val (.int .i64 e1) :: .val (.bool false) :: []) (by kernel_rfl) (Nat.le_refl _) ((by exact trivial))
        ⟨fun a w R => mv (R.slot 7 rfl), fun a w R => c_neq_tk (R.val 0) (Tryd.underlying27) (by rw [t2_.out]; rfl), trivial⟩ (fun act_ W7 I => ?_)
      rw [I.act [(41, .int .i64 e1), (42, .bool false)]
        ⟨I.val 0, I.val 1, trivial⟩ rfl]
      have sW7 : W6.heap.size ≤ W7.heap.size := I.below.size
      replace ow2 := I.keep ow2 trivial
      replace ow3 := I.keep ow3 trivial
      replace ow4 := I.keep ow4 trivial
      replace ow6 := I.keep ow6 trivial
      replace ow8 := I.keep ow8 trivial
      replace ow9 := I.keep ow9 trivial
      have hW7 : Below w.heap.size w W7 := then_ hW6 I.below hW6.size
      clear I
      simp only [List.foldl_cons, List.foldl_nil, List.setIfInBounds_toArray, List.set_cons_zero, List.set_cons_succ]
      go_upto_region 11 with fail
      refine region_memo_f (B := W7.heap.size) (L := .val (.agg #[.int .u64 (L0 d), .int .u64 (L1 d), .int .u64 (L2 d), .int .u64 (L3 d)]) :: .val (.agg #[.int .u64 (L0 m), .int .u64 (L1 m), .int .u64 (L2 m), .int .u64 (L3 m)]) :: .val (.tuple #[.agg #[.int .u64 (L0 q), .int .u64 (L1 q), .int .u64 (L2 q), .int .u64 (L3 q)], .agg #[.int .u64 (L0 r2), .int .u64 (L1 r2), .int .u64 (L2 r2), .int .u64 (L3 r2)], .int .i64 e2]) :: .val (.tuple #[.agg #[.int .u64 (L0 q), .int .u64 (L1 q), .int .u64 (L2 q), .int .u64 (L3 q)], .agg #[.int .u64 (L0 r2), .int .u64 (L1 r2), .int .u64 (L2 r2), .int .u64 (L3 r2)], .int .i64 e2]) :: .val (.agg #[.int .u64 (L0 q), .int .u64 (L1 q), .int .u64 (L2 q), .int .u64 (L3 q)]) :: .val (.agg #[.int .u64 (L0 r2), .int .u64 (L1 r2), .int .u64 (L2 r2), .int .u64 (L3 r2)]) :: .val (.int .i64 e2) :: .blk 24 4 :: .blk 24 4 :: .put 10 24 #[.int .u64 (L0 q), .int .u64 (L1 q), .int .u64 (L2 q), .int .u64 (L3 q)] :: .put 11 24 #[.int .u64 (L0 r2), .int .u64 (L1 r2), .int .u64 (L2 r2), .int .u64 (L3 r2)] :: .val (.int .i64 e2) :: []) (by kernel_rfl) (Nat.le_refl _) ((by exact trivial))
        ⟨fun a w R => ld_W (R.slot 3 rfl) (R.keep ow3 trivial) rfl rfl rfl rfl, fun a w R => ld_W (R.slot 6 rfl) (R.keep ow6 trivial) rfl rfl rfl rfl, fun a w R => cl_tt (enter_at Tryd.func42) (R.val 0) (R.val 1) (H2.out _), fun a w R => mv (R.val 2), fun a w R => x30 (R.val 3), fun a w R => x31 (R.val 3), fun a w R => x32 (R.val 3), fun a w R => al_W, fun a w R => al_W, fun a w R => sb_W (R.dep 7) (R.val 4), fun a w R => sb_W (R.dep 8) (R.val 5), fun a w R => asg (R.val 6), trivial⟩ (fun act_ W8 I => ?_)
      obtain ⟨gb10, ew10, lw10, ow10⟩ := I.put 9 rfl rfl
      obtain ⟨gb11, ew11, lw11, ow11⟩ := I.put 10 rfl rfl
      have nw10_11 := I.apart2 7 8 rfl rfl (by omega) rfl rfl rfl rfl ew10 ew11
      rw [I.act [(46, .agg #[.int .u64 (L0 d), .int .u64 (L1 d), .int .u64 (L2 d), .int .u64 (L3 d)]), (47, .agg #[.int .u64 (L0 m), .int .u64 (L1 m), .int .u64 (L2 m), .int .u64 (L3 m)]), (48, .tuple #[.agg #[.int .u64 (L0 q), .int .u64 (L1 q), .int .u64 (L2 q), .int .u64 (L3 q)], .agg #[.int .u64 (L0 r2), .int .u64 (L1 r2), .int .u64 (L2 r2), .int .u64 (L3 r2)], .int .i64 e2]), (45, .tuple #[.agg #[.int .u64 (L0 q), .int .u64 (L1 q), .int .u64 (L2 q), .int .u64 (L3 q)], .agg #[.int .u64 (L0 r2), .int .u64 (L1 r2), .int .u64 (L2 r2), .int .u64 (L3 r2)], .int .i64 e2]), (49, .agg #[.int .u64 (L0 q), .int .u64 (L1 q), .int .u64 (L2 q), .int .u64 (L3 q)]), (50, .agg #[.int .u64 (L0 r2), .int .u64 (L1 r2), .int .u64 (L2 r2), .int .u64 (L3 r2)]), (51, .int .i64 e2), (10, .pointer (some ⟨gb10, 0, none⟩)), (11, .pointer (some ⟨gb11, 0, none⟩)), (7, .int .i64 e2)]
        ⟨I.val 0, I.val 1, I.val 2, I.val 3, I.val 4, I.val 5, I.val 6, ew10, ew11, I.val 11, trivial⟩ rfl]
      change W7.heap.size ≤ gb10 at lw10
      change W7.heap.size ≤ gb11 at lw11
      have sW8 : W7.heap.size ≤ W8.heap.size := I.below.size
      replace ow2 := I.keep ow2 trivial
      replace ow3 := I.keep ow3 trivial
      replace ow4 := I.keep ow4 trivial
      replace ow6 := I.keep ow6 trivial
      replace ow8 := I.keep ow8 trivial
      replace ow9 := I.keep ow9 trivial
      have hW8 : Below w.heap.size w W8 := then_ hW7 I.below hW7.size
      clear ew10 ew11
      clear I
      simp only [List.foldl_cons, List.foldl_nil, List.setIfInBounds_toArray, List.set_cons_zero, List.set_cons_succ]
      rcases Bool.eq_false_or_eq_true ((e2 == 0)) with t3 | t3
      · have t3_ := Lib.hid t3
        clear t3
        go_upto_region 12 with fail
        refine region_memo_f (B := W8.heap.size) (L := .val (.int .i64 e2) :: .val (.bool false) :: []) (by kernel_rfl) (Nat.le_refl _) ((by exact trivial))
          ⟨fun a w R => mv (R.slot 7 rfl), fun a w R => c_neq_tk (R.val 0) (Tryd.underlying27) (by rw [t3_.out]; rfl), trivial⟩ (fun act_ W9 I => ?_)
        rw [I.act [(52, .int .i64 e2), (53, .bool false)]
          ⟨I.val 0, I.val 1, trivial⟩ rfl]
        have sW9 : W8.heap.size ≤ W9.heap.size := I.below.size
        replace ow2 := I.keep ow2 trivial
        replace ow3 := I.keep ow3 trivial
        replace ow4 := I.keep ow4 trivial
        replace ow6 := I.keep ow6 trivial
        replace ow8 := I.keep ow8 trivial
        replace ow9 := I.keep ow9 trivial
        replace ow10 := I.keep ow10 trivial
        replace ow11 := I.keep ow11 trivial
        have hW9 : Below w.heap.size w W9 := then_ hW8 I.below hW8.size
        clear I
        simp only [List.foldl_cons, List.foldl_nil, List.setIfInBounds_toArray, List.set_cons_zero, List.set_cons_succ]
        go_upto_region 14 with fail
        refine region_memo_f (B := w.heap.size) (L := .val (.agg #[.int .u64 (L0 p), .int .u64 (L1 p), .int .u64 (L2 p), .int .u64 (L3 p)]) :: .val (.agg #[.int .u64 (L0 q), .int .u64 (L1 q), .int .u64 (L2 q), .int .u64 (L3 q)]) :: .val (.agg #[.int .u64 (L0 p), .int .u64 (L1 p), .int .u64 (L2 p), .int .u64 (L3 p), .int .u64 (L0 q), .int .u64 (L1 q), .int .u64 (L2 q), .int .u64 (L3 q)]) :: .sto (w.heap.size + 1 + 1) 26 #[.int .u64 (L0 p), .int .u64 (L1 p), .int .u64 (L2 p), .int .u64 (L3 p), .int .u64 (L0 q), .int .u64 (L1 q), .int .u64 (L2 q), .int .u64 (L3 q)] :: .val (.int .i64 0) :: []) (by kernel_rfl) (hW9.size) (Olds.v (Olds.v (Olds.v (Olds.s (by omega) ow4.in_ (by repeat' (first | exact trivial | refine Off.v ?_ | refine Off.k ?_ | refine Off.b ?_ | refine Off.n ?_ | refine Off.p ?_ | refine Off.s ?_ ?_ | omega)) (Olds.v trivial)))))
          ⟨fun a w R => ld_W (R.slot 8 rfl) (R.keep ow8 (by repeat' (first | exact trivial | refine Off.v ?_ | refine Off.k ?_ | refine Off.b ?_ | refine Off.n ?_ | refine Off.p ?_ | refine Off.s ?_ ?_ | omega))) rfl rfl rfl rfl, fun a w R => ld_W (R.slot 10 rfl) (R.keep ow10 (by repeat' (first | exact trivial | refine Off.v ?_ | refine Off.k ?_ | refine Off.b ?_ | refine Off.n ?_ | refine Off.p ?_ | refine Off.s ?_ ?_ | omega))) rfl rfl rfl rfl, fun a w R => bdR_tt (R.val 0) (R.val 1), fun a w R => so_R (R.slot 4 rfl) (R.own rfl ow4) rfl (R.val 2), fun a w R => asc, trivial⟩ (fun act_ W10 I => ?_)
        rw [I.act [(56, .agg #[.int .u64 (L0 p), .int .u64 (L1 p), .int .u64 (L2 p), .int .u64 (L3 p)]), (57, .agg #[.int .u64 (L0 q), .int .u64 (L1 q), .int .u64 (L2 q), .int .u64 (L3 q)]), (58, .agg #[.int .u64 (L0 p), .int .u64 (L1 p), .int .u64 (L2 p), .int .u64 (L3 p), .int .u64 (L0 q), .int .u64 (L1 q), .int .u64 (L2 q), .int .u64 (L3 q)]), (5, .int .i64 0)]
          ⟨I.val 0, I.val 1, I.val 2, I.val 4, trivial⟩ rfl]
        have sW10 : W9.heap.size ≤ W10.heap.size := I.below.size
        replace ow2 := I.keep ow2 (by repeat' (first | exact trivial | refine Off.v ?_ | refine Off.k ?_ | refine Off.b ?_ | refine Off.n ?_ | refine Off.p ?_ | refine Off.s ?_ ?_ | omega))
        replace ow3 := I.keep ow3 (by repeat' (first | exact trivial | refine Off.v ?_ | refine Off.k ?_ | refine Off.b ?_ | refine Off.n ?_ | refine Off.p ?_ | refine Off.s ?_ ?_ | omega))
        replace ow6 := I.keep ow6 (by repeat' (first | exact trivial | refine Off.v ?_ | refine Off.k ?_ | refine Off.b ?_ | refine Off.n ?_ | refine Off.p ?_ | refine Off.s ?_ ?_ | omega))
        replace ow8 := I.keep ow8 (by repeat' (first | exact trivial | refine Off.v ?_ | refine Off.k ?_ | refine Off.b ?_ | refine Off.n ?_ | refine Off.p ?_ | refine Off.s ?_ ?_ | omega))
        replace ow9 := I.keep ow9 (by repeat' (first | exact trivial | refine Off.v ?_ | refine Off.k ?_ | refine Off.b ?_ | refine Off.n ?_ | refine Off.p ?_ | refine Off.s ?_ ?_ | omega))
        replace ow10 := I.keep ow10 (by repeat' (first | exact trivial | refine Off.v ?_ | refine Off.k ?_ | refine Off.b ?_ | refine Off.n ?_ | refine Off.p ?_ | refine Off.s ?_ ?_ | omega))
        replace ow11 := I.keep ow11 (by repeat' (first | exact trivial | refine Off.v ?_ | refine Off.k ?_ | refine Off.b ?_ | refine Off.n ?_ | refine Off.p ?_ | refine Off.s ?_ ?_ | omega))
        replace ow4 := I.sto 3 rfl rfl
        have hW10 : Below w.heap.size w W10 := hW9.trans I.below
        clear I
        simp only [List.foldl_cons, List.foldl_nil, List.setIfInBounds_toArray, List.set_cons_zero, List.set_cons_succ]
        obtain ⟨r4_, r4_1, r4_2⟩ := ow4.at_
        clear ow2 ow3 ow4 ow6 ow8 ow9 ow10 ow11
        go_wp2
        try simp only [setCell_drawn]
        refine bodyPost_ret (by first | (simp [results, Tryd.results19, go_sem, r4_]; done) | (simp [results, Tryd.results19, go_sem, r4_]; rfl)) rfl ⟨?_, hW10⟩
        simp only [mkE, t1_.out, t2_.out, t3_.out]; rfl
      · have t3_ := Lib.hid t3
        clear t3
        go_upto_region 12 with fail
        refine region_memo_f (B := W8.heap.size) (L := .val (.int .i64 e2) :: .val (.bool true) :: []) (by kernel_rfl) (Nat.le_refl _) ((by exact trivial))
          ⟨fun a w R => mv (R.slot 7 rfl), fun a w R => c_neq_tk (R.val 0) (Tryd.underlying27) (by rw [t3_.out]; rfl), trivial⟩ (fun act_ W9 I => ?_)
        rw [I.act [(52, .int .i64 e2), (53, .bool true)]
          ⟨I.val 0, I.val 1, trivial⟩ rfl]
        have sW9 : W8.heap.size ≤ W9.heap.size := I.below.size
        replace ow2 := I.keep ow2 trivial
        replace ow3 := I.keep ow3 trivial
        replace ow4 := I.keep ow4 trivial
        replace ow6 := I.keep ow6 trivial
        replace ow8 := I.keep ow8 trivial
        replace ow9 := I.keep ow9 trivial
        replace ow10 := I.keep ow10 trivial
        replace ow11 := I.keep ow11 trivial
        have hW9 : Below w.heap.size w W9 := then_ hW8 I.below hW8.size
        clear I
        simp only [List.foldl_cons, List.foldl_nil, List.setIfInBounds_toArray, List.set_cons_zero, List.set_cons_succ]
        go_upto_region 13 with fail
        refine region_memo_f (B := w.heap.size) (L := .val (.agg #[.int .u64 0, .int .u64 0, .int .u64 0, .int .u64 0, .int .u64 0, .int .u64 0, .int .u64 0, .int .u64 0]) :: .val (.int .i64 e2) :: .sto (w.heap.size + 1 + 1) 26 #[.int .u64 0, .int .u64 0, .int .u64 0, .int .u64 0, .int .u64 0, .int .u64 0, .int .u64 0, .int .u64 0] :: .val (.int .i64 e2) :: []) (by kernel_rfl) (hW9.size) (Olds.v (Olds.v (Olds.s (by omega) ow4.in_ (by repeat' (first | exact trivial | refine Off.v ?_ | refine Off.k ?_ | refine Off.b ?_ | refine Off.n ?_ | refine Off.p ?_ | refine Off.s ?_ ?_ | omega)) (Olds.v trivial))))
          ⟨fun a w R => bd0_R, fun a w R => mv (R.slot 7 rfl), fun a w R => so_R (R.slot 4 rfl) (R.own rfl ow4) rfl (R.val 0), fun a w R => asg (R.val 1), trivial⟩ (fun act_ W10 I => ?_)
        rw [I.act [(54, .agg #[.int .u64 0, .int .u64 0, .int .u64 0, .int .u64 0, .int .u64 0, .int .u64 0, .int .u64 0, .int .u64 0]), (55, .int .i64 e2), (5, .int .i64 e2)]
          ⟨I.val 0, I.val 1, I.val 3, trivial⟩ rfl]
        have sW10 : W9.heap.size ≤ W10.heap.size := I.below.size
        replace ow2 := I.keep ow2 (by repeat' (first | exact trivial | refine Off.v ?_ | refine Off.k ?_ | refine Off.b ?_ | refine Off.n ?_ | refine Off.p ?_ | refine Off.s ?_ ?_ | omega))
        replace ow3 := I.keep ow3 (by repeat' (first | exact trivial | refine Off.v ?_ | refine Off.k ?_ | refine Off.b ?_ | refine Off.n ?_ | refine Off.p ?_ | refine Off.s ?_ ?_ | omega))
        replace ow6 := I.keep ow6 (by repeat' (first | exact trivial | refine Off.v ?_ | refine Off.k ?_ | refine Off.b ?_ | refine Off.n ?_ | refine Off.p ?_ | refine Off.s ?_ ?_ | omega))
        replace ow8 := I.keep ow8 (by repeat' (first | exact trivial | refine Off.v ?_ | refine Off.k ?_ | refine Off.b ?_ | refine Off.n ?_ | refine Off.p ?_ | refine Off.s ?_ ?_ | omega))
        replace ow9 := I.keep ow9 (by repeat' (first | exact trivial | refine Off.v ?_ | refine Off.k ?_ | refine Off.b ?_ | refine Off.n ?_ | refine Off.p ?_ | refine Off.s ?_ ?_ | omega))
        replace ow10 := I.keep ow10 (by repeat' (first | exact trivial | refine Off.v ?_ | refine Off.k ?_ | refine Off.b ?_ | refine Off.n ?_ | refine Off.p ?_ | refine Off.s ?_ ?_ | omega))
        replace ow11 := I.keep ow11 (by repeat' (first | exact trivial | refine Off.v ?_ | refine Off.k ?_ | refine Off.b ?_ | refine Off.n ?_ | refine Off.p ?_ | refine Off.s ?_ ?_ | omega))
        replace ow4 := I.sto 2 rfl rfl
        have hW10 : Below w.heap.size w W10 := hW9.trans I.below
        clear I
        simp only [List.foldl_cons, List.foldl_nil, List.setIfInBounds_toArray, List.set_cons_zero, List.set_cons_succ]
        obtain ⟨r4_, r4_1, r4_2⟩ := ow4.at_
        clear ow2 ow3 ow4 ow6 ow8 ow9 ow10 ow11
        go_wp2
        try simp only [setCell_drawn]
        refine bodyPost_ret (by first | (simp [results, Tryd.results19, go_sem, r4_]; done) | (simp [results, Tryd.results19, go_sem, r4_]; rfl)) rfl ⟨?_, hW10⟩
        simp only [mkE, t1_.out, t2_.out, t3_.out]; rfl
    · have t2_ := Lib.hid t2
      clear t2
      go_upto_region 9 with fail
      refine region_memo_f (B := W6.heap.size) (L := .val (.int .i64 e1) :: .val (.bool true) :: []) (by kernel_rfl) (Nat.le_refl _) ((by exact trivial))
        ⟨fun a w R => mv (R.slot 7 rfl), fun a w R => c_neq_tk (R.val 0) (Tryd.underlying27) (by rw [t2_.out]; rfl), trivial⟩ (fun act_ W7 I => ?_)
      rw [I.act [(41, .int .i64 e1), (42, .bool true)]
        ⟨I.val 0, I.val 1, trivial⟩ rfl]
      have sW7 : W6.heap.size ≤ W7.heap.size := I.below.size
      replace ow2 := I.keep ow2 trivial
      replace ow3 := I.keep ow3 trivial
      replace ow4 := I.keep ow4 trivial
      replace ow6 := I.keep ow6 trivial
      replace ow8 := I.keep ow8 trivial
      replace ow9 := I.keep ow9 trivial
      have hW7 : Below w.heap.size w W7 := then_ hW6 I.below hW6.size
      clear I
      simp only [List.foldl_cons, List.foldl_nil, List.setIfInBounds_toArray, List.set_cons_zero, List.set_cons_succ]
      go_upto_region 10 with fail
      refine region_memo_f (B := w.heap.size) (L := .val (.agg #[.int .u64 0, .int .u64 0, .int .u64 0, .int .u64 0, .int .u64 0, .int .u64 0, .int .u64 0, .int .u64 0]) :: .val (.int .i64 e1) :: .sto (w.heap.size + 1 + 1) 26 #[.int .u64 0, .int .u64 0, .int .u64 0, .int .u64 0, .int .u64 0, .int .u64 0, .int .u64 0, .int .u64 0] :: .val (.int .i64 e1) :: []) (by kernel_rfl) (hW7.size) (Olds.v (Olds.v (Olds.s (by omega) ow4.in_ (by repeat' (first | exact trivial | refine Off.v ?_ | refine Off.k ?_ | refine Off.b ?_ | refine Off.n ?_ | refine Off.p ?_ | refine Off.s ?_ ?_ | omega)) (Olds.v trivial))))
        ⟨fun a w R => bd0_R, fun a w R => mv (R.slot 7 rfl), fun a w R => so_R (R.slot 4 rfl) (R.own rfl ow4) rfl (R.val 0), fun a w R => asg (R.val 1), trivial⟩ (fun act_ W8 I => ?_)
      rw [I.act [(43, .agg #[.int .u64 0, .int .u64 0, .int .u64 0, .int .u64 0, .int .u64 0, .int .u64 0, .int .u64 0, .int .u64 0]), (44, .int .i64 e1), (5, .int .i64 e1)]
        ⟨I.val 0, I.val 1, I.val 3, trivial⟩ rfl]
      have sW8 : W7.heap.size ≤ W8.heap.size := I.below.size
      replace ow2 := I.keep ow2 (by repeat' (first | exact trivial | refine Off.v ?_ | refine Off.k ?_ | refine Off.b ?_ | refine Off.n ?_ | refine Off.p ?_ | refine Off.s ?_ ?_ | omega))
      replace ow3 := I.keep ow3 (by repeat' (first | exact trivial | refine Off.v ?_ | refine Off.k ?_ | refine Off.b ?_ | refine Off.n ?_ | refine Off.p ?_ | refine Off.s ?_ ?_ | omega))
      replace ow6 := I.keep ow6 (by repeat' (first | exact trivial | refine Off.v ?_ | refine Off.k ?_ | refine Off.b ?_ | refine Off.n ?_ | refine Off.p ?_ | refine Off.s ?_ ?_ | omega))
      replace ow8 := I.keep ow8 (by repeat' (first | exact trivial | refine Off.v ?_ | refine Off.k ?_ | refine Off.b ?_ | refine Off.n ?_ | refine Off.p ?_ | refine Off.s ?_ ?_ | omega))
      replace ow9 := I.keep ow9 (by repeat' (first | exact trivial | refine Off.v ?_ | refine Off.k ?_ | refine Off.b ?_ | refine Off.n ?_ | refine Off.p ?_ | refine Off.s ?_ ?_ | omega))
      replace ow4 := I.sto 2 rfl rfl
      have hW8 : Below w.heap.size w W8 := hW7.trans I.below
      clear I
      simp only [List.foldl_cons, List.foldl_nil, List.setIfInBounds_toArray, List.set_cons_zero, List.set_cons_succ]
      obtain ⟨r4_, r4_1, r4_2⟩ := ow4.at_
      clear ow2 ow3 ow4 ow6 ow8 ow9
      go_wp2
      try simp only [setCell_drawn]
      refine bodyPost_ret (by first | (simp [results, Tryd.results19, go_sem, r4_]; done) | (simp [results, Tryd.results19, go_sem, r4_]; rfl)) rfl ⟨?_, hW8⟩
      simp only [mkE, t1_.out, t2_.out]; rfl
  · have t1_ := Lib.hid t1
    clear t1
    go_upto_region 4 with fail
    refine region_memo_f (B := W2.heap.size) (L := .val (.int .i64 eg) :: .val (.bool true) :: []) (by kernel_rfl) (Nat.le_refl _) ((by exact trivial))
      ⟨fun a w R => mv (R.slot 7 rfl), fun a w R => c_neq_tk (R.val 0) (Tryd.underlying27) (by rw [t1_.out]; rfl), trivial⟩ (fun act_ W3 I => ?_)
    rw [I.act [(22, .int .i64 eg), (23, .bool true)]
      ⟨I.val 0, I.val 1, trivial⟩ rfl]
    have sW3 : W2.heap.size ≤ W3.heap.size := I.below.size
    replace ow2 := I.keep ow2 trivial
    replace ow3 := I.keep ow3 trivial
    replace ow4 := I.keep ow4 trivial
    replace ow6 := I.keep ow6 trivial
    have hW3 : Below w.heap.size w W3 := then_ hW2 I.below hW2.size
    clear I
    simp only [List.foldl_cons, List.foldl_nil, List.setIfInBounds_toArray, List.set_cons_zero, List.set_cons_succ]
    go_upto_region 5 with fail
    refine region_memo_f (B := w.heap.size) (L := .val (.agg #[.int .u64 0, .int .u64 0, .int .u64 0, .int .u64 0, .int .u64 0, .int .u64 0, .int .u64 0, .int .u64 0]) :: .val (.int .i64 eg) :: .sto (w.heap.size + 1 + 1) 26 #[.int .u64 0, .int .u64 0, .int .u64 0, .int .u64 0, .int .u64 0, .int .u64 0, .int .u64 0, .int .u64 0] :: .val (.int .i64 eg) :: []) (by kernel_rfl) (hW3.size) (Olds.v (Olds.v (Olds.s (by omega) ow4.in_ (by repeat' (first | exact trivial | refine Off.v ?_ | refine Off.k ?_ | refine Off.b ?_ | refine Off.n ?_ | refine Off.p ?_ | refine Off.s ?_ ?_ | omega)) (Olds.v trivial))))
      ⟨fun a w R => bd0_R, fun a w R => mv (R.slot 7 rfl), fun a w R => so_R (R.slot 4 rfl) (R.own rfl ow4) rfl (R.val 0), fun a w R => asg (R.val 1), trivial⟩ (fun act_ W4 I => ?_)
    rw [I.act [(24, .agg #[.int .u64 0, .int .u64 0, .int .u64 0, .int .u64 0, .int .u64 0, .int .u64 0, .int .u64 0, .int .u64 0]), (25, .int .i64 eg), (5, .int .i64 eg)]
      ⟨I.val 0, I.val 1, I.val 3, trivial⟩ rfl]
    have sW4 : W3.heap.size ≤ W4.heap.size := I.below.size
    replace ow2 := I.keep ow2 (by repeat' (first | exact trivial | refine Off.v ?_ | refine Off.k ?_ | refine Off.b ?_ | refine Off.n ?_ | refine Off.p ?_ | refine Off.s ?_ ?_ | omega))
    replace ow3 := I.keep ow3 (by repeat' (first | exact trivial | refine Off.v ?_ | refine Off.k ?_ | refine Off.b ?_ | refine Off.n ?_ | refine Off.p ?_ | refine Off.s ?_ ?_ | omega))
    replace ow6 := I.keep ow6 (by repeat' (first | exact trivial | refine Off.v ?_ | refine Off.k ?_ | refine Off.b ?_ | refine Off.n ?_ | refine Off.p ?_ | refine Off.s ?_ ?_ | omega))
    replace ow4 := I.sto 2 rfl rfl
    have hW4 : Below w.heap.size w W4 := hW3.trans I.below
    clear I
    simp only [List.foldl_cons, List.foldl_nil, List.setIfInBounds_toArray, List.set_cons_zero, List.set_cons_succ]
    obtain ⟨r4_, r4_1, r4_2⟩ := ow4.at_
    clear ow2 ow3 ow4 ow6
    go_wp2
    try simp only [setCell_drawn]
    refine bodyPost_ret (by first | (simp [results, Tryd.results19, go_sem, r4_]; done) | (simp [results, Tryd.results19, go_sem, r4_]; rfl)) rfl ⟨?_, hW4⟩
    simp only [mkE, t1_.out]; rfl
set_option maxHeartbeats 16000000 in
set_option maxRecDepth 20000 in
theorem Make_pos {n d g m p q r1 r2 eg e1 e2 : Int} (hn : Fit n) (hd : Fit d) (hg : Fit g) (hd0 : d ≠ 0) (hs : decide (sgnZ d < 0) = false) (HG1 : (∀ w, Calls Tryd.prog 39 #[.agg #[.int .u64 (L0 n), .int .u64 (L1 n), .int .u64 (L2 n), .int .u64 (L3 n)], .agg #[.int .u64 (L0 d), .int .u64 (L1 d), .int .u64 (L2 d), .int .u64 (L3 d)]] w fun e w' => e = .returned (.tuple #[.agg #[.int .u64 (L0 g), .int .u64 (L1 g), .int .u64 (L2 g), .int .u64 (L3 g)], .int .i64 eg]) ∧ Below w.heap.size w w')) (HM1 : (∀ w, Calls Tryd.prog 41 #[.agg #[.int .u64 (L0 g), .int .u64 (L1 g), .int .u64 (L2 g), .int .u64 (L3 g)]] w fun e w' => e = .returned (.tuple #[.agg #[.int .u64 (L0 m), .int .u64 (L1 m), .int .u64 (L2 m), .int .u64 (L3 m)], .int .i64 0]) ∧ Below w.heap.size w w')) (H11 : (∀ w, Calls Tryd.prog 42 #[.agg #[.int .u64 (L0 n), .int .u64 (L1 n), .int .u64 (L2 n), .int .u64 (L3 n)], .agg #[.int .u64 (L0 g), .int .u64 (L1 g), .int .u64 (L2 g), .int .u64 (L3 g)]] w fun e w' => e = .returned (.tuple #[.agg #[.int .u64 (L0 p), .int .u64 (L1 p), .int .u64 (L2 p), .int .u64 (L3 p)], .agg #[.int .u64 (L0 r1), .int .u64 (L1 r1), .int .u64 (L2 r1), .int .u64 (L3 r1)], .int .i64 e1]) ∧ Below w.heap.size w w')) (H21 : (∀ w, Calls Tryd.prog 42 #[.agg #[.int .u64 (L0 d), .int .u64 (L1 d), .int .u64 (L2 d), .int .u64 (L3 d)], .agg #[.int .u64 (L0 g), .int .u64 (L1 g), .int .u64 (L2 g), .int .u64 (L3 g)]] w fun e w' => e = .returned (.tuple #[.agg #[.int .u64 (L0 q), .int .u64 (L1 q), .int .u64 (L2 q), .int .u64 (L3 q)], .agg #[.int .u64 (L0 r2), .int .u64 (L1 r2), .int .u64 (L2 r2), .int .u64 (L3 r2)], .int .i64 e2]) ∧ Below w.heap.size w w')) (w : World) : Calls Tryd.prog 19 #[.agg #[.int .u64 (L0 n), .int .u64 (L1 n), .int .u64 (L2 n), .int .u64 (L3 n)], .agg #[.int .u64 (L0 d), .int .u64 (L1 d), .int .u64 (L2 d), .int .u64 (L3 d)]] w fun e w' => e = .returned (mkE p q eg e1 e2) ∧ Below w.heap.size w w' := by
  have HG := Lib.hid HG1
  have HM := Lib.hid HM1
  have H1 := Lib.hid H11
  have H2 := Lib.hid H21
  have HS := Lib.hid hs
  have HD := Lib.hid (decide_eq_false hd0)
  clear HG1 HM1 H11 H21 hs hd0
  go_enter Tryd.func19, Tryd.ntmps19
  go_upto_region 1 with fail
  go_name_world W0 hW0e
  have ow2 : Own W0 w.heap.size 24 #[.int .u64 (L0 n), .int .u64 (L1 n), .int .u64 (L2 n), .int .u64 (L3 n)] := hW0e ▸ (by repeat' (first | (with_reducible assumption) | (with_reducible refine Own.drawnN ?_ _) | (with_reducible refine Own.drawn ?_) | (with_reducible refine Own.made_at ?_; first | rfl | (simp; done) | omega | (simp; omega)) | (with_reducible refine Own.more ?_ _) | (with_reducible refine Own.apart ?_ ?_ _ _; rotate_left; first | omega | (simp; done) | (simp; omega)) | (refine Own.put ?_ _ _)))
  have ow3 : Own W0 (w.heap.size + 1) 24 #[.int .u64 (L0 d), .int .u64 (L1 d), .int .u64 (L2 d), .int .u64 (L3 d)] := hW0e ▸ (by repeat' (first | (with_reducible assumption) | (with_reducible refine Own.drawnN ?_ _) | (with_reducible refine Own.drawn ?_) | (with_reducible refine Own.made_at ?_; first | rfl | (simp; done) | omega | (simp; omega)) | (with_reducible refine Own.more ?_ _) | (with_reducible refine Own.apart ?_ ?_ _ _; rotate_left; first | omega | (simp; done) | (simp; omega)) | (refine Own.put ?_ _ _)))
  have ow4 : Own W0 (w.heap.size + 1 + 1) 26 #[.int .u64 0, .int .u64 0, .int .u64 0, .int .u64 0, .int .u64 0, .int .u64 0, .int .u64 0, .int .u64 0] := hW0e ▸ (by repeat' (first | (with_reducible assumption) | (with_reducible refine Own.drawnN ?_ _) | (with_reducible refine Own.drawn ?_) | (with_reducible refine Own.made_at ?_; first | rfl | (simp; done) | omega | (simp; omega)) | (with_reducible refine Own.more ?_ _) | (with_reducible refine Own.apart ?_ ?_ _ _; rotate_left; first | omega | (simp; done) | (simp; omega)) | (refine Own.put ?_ _ _)))
  have hW0 : Below w.heap.size w W0 := hW0e ▸ (by repeat' (first | (with_reducible exact Below.refl _ _) | (with_reducible assumption) | (with_reducible refine below_drewN ?_ _) | (with_reducible refine Below.drew ?_) | (with_reducible refine Below.alloc ?_ ?_ _) | (with_reducible refine Below.setCell ?_ ?_ _) | (with_reducible refine then_ ?_ (by with_reducible assumption) ?_) | (with_reducible exact Nat.le_refl _) | (with_reducible exact Nat.le_succ _) | (with_reducible exact Nat.le_succ_of_le (by with_reducible assumption)) | omega | (simp; done) | (simp; omega) | (exact Nat.le_succ _) | (exact Nat.le_succ_of_le (by with_reducible assumption))))
  clear hW0e
  have z0 := ow4.in_
  go_upto_region 1 with fail
  refine region_memo_f (B := W0.heap.size) (L := .val (.agg #[.int .u64 (L0 d), .int .u64 (L1 d), .int .u64 (L2 d), .int .u64 (L3 d)]) :: .val (.agg #[.int .u64 0, .int .u64 0, .int .u64 0, .int .u64 0]) :: .val (.bool false) :: []) (by kernel_rfl) (Nat.le_refl _) ((by exact trivial))
    ⟨fun a w R => ld_W (R.slot 3 rfl) (R.keep ow3 trivial) rfl rfl rfl rfl, fun a w R => bd0_W, fun a w R => (e_eql_W (R.val 0) (R.val 1) (fun w => (eq_fit (a := d) (b := 0) hd ⟨by decide, by decide⟩ w).trans (by rw [HD.out]))), trivial⟩ (fun act_ W1 I => ?_)
  rw [I.act [(12, .agg #[.int .u64 (L0 d), .int .u64 (L1 d), .int .u64 (L2 d), .int .u64 (L3 d)]), (13, .agg #[.int .u64 0, .int .u64 0, .int .u64 0, .int .u64 0]), (14, .bool false)]
    ⟨I.val 0, I.val 1, I.val 2, trivial⟩ rfl]
  have sW1 : W0.heap.size ≤ W1.heap.size := I.below.size
  replace ow2 := I.keep ow2 trivial
  replace ow3 := I.keep ow3 trivial
  replace ow4 := I.keep ow4 trivial
  have hW1 : Below w.heap.size w W1 := then_ hW0 I.below hW0.size
  clear I
  simp only [List.foldl_cons, List.foldl_nil, List.setIfInBounds_toArray, List.set_cons_zero, List.set_cons_succ]
  go_upto_region 3 with fail
  refine region_memo_f (B := W1.heap.size) (L := .val (.agg #[.int .u64 (L0 n), .int .u64 (L1 n), .int .u64 (L2 n), .int .u64 (L3 n)]) :: .val (.agg #[.int .u64 (L0 d), .int .u64 (L1 d), .int .u64 (L2 d), .int .u64 (L3 d)]) :: .val (.tuple #[.agg #[.int .u64 (L0 g), .int .u64 (L1 g), .int .u64 (L2 g), .int .u64 (L3 g)], .int .i64 eg]) :: .val (.tuple #[.agg #[.int .u64 (L0 g), .int .u64 (L1 g), .int .u64 (L2 g), .int .u64 (L3 g)], .int .i64 eg]) :: .val (.agg #[.int .u64 (L0 g), .int .u64 (L1 g), .int .u64 (L2 g), .int .u64 (L3 g)]) :: .val (.int .i64 eg) :: .blk 24 4 :: .put 6 24 #[.int .u64 (L0 g), .int .u64 (L1 g), .int .u64 (L2 g), .int .u64 (L3 g)] :: .val (.int .i64 eg) :: []) (by kernel_rfl) (Nat.le_refl _) ((by exact trivial))
    ⟨fun a w R => ld_W (R.slot 2 rfl) (R.keep ow2 trivial) rfl rfl rfl rfl, fun a w R => ld_W (R.slot 3 rfl) (R.keep ow3 trivial) rfl rfl rfl rfl, fun a w R => cl_tt (enter_at Tryd.func39) (R.val 0) (R.val 1) (HG.out _), fun a w R => mv (R.val 2), fun a w R => ex0 (R.val 3), fun a w R => ex1 (R.val 3), fun a w R => al_W, fun a w R => sb_W (R.dep 6) (R.val 4), fun a w R => asg (R.val 5), trivial⟩ (fun act_ W2 I => ?_)
  obtain ⟨gb6, ew6, lw6, ow6⟩ := I.put 7 rfl rfl
  rw [I.act [(17, .agg #[.int .u64 (L0 n), .int .u64 (L1 n), .int .u64 (L2 n), .int .u64 (L3 n)]), (18, .agg #[.int .u64 (L0 d), .int .u64 (L1 d), .int .u64 (L2 d), .int .u64 (L3 d)]), (19, .tuple #[.agg #[.int .u64 (L0 g), .int .u64 (L1 g), .int .u64 (L2 g), .int .u64 (L3 g)], .int .i64 eg]), (16, .tuple #[.agg #[.int .u64 (L0 g), .int .u64 (L1 g), .int .u64 (L2 g), .int .u64 (L3 g)], .int .i64 eg]), (20, .agg #[.int .u64 (L0 g), .int .u64 (L1 g), .int .u64 (L2 g), .int .u64 (L3 g)]), (21, .int .i64 eg), (6, .pointer (some ⟨gb6, 0, none⟩)), (7, .int .i64 eg)]
    ⟨I.val 0, I.val 1, I.val 2, I.val 3, I.val 4, I.val 5, ew6, I.val 8, trivial⟩ rfl]
  change W1.heap.size ≤ gb6 at lw6
  have sW2 : W1.heap.size ≤ W2.heap.size := I.below.size
  replace ow2 := I.keep ow2 trivial
  replace ow3 := I.keep ow3 trivial
  replace ow4 := I.keep ow4 trivial
  have hW2 : Below w.heap.size w W2 := then_ hW1 I.below hW1.size
  clear ew6
  clear I
  simp only [List.foldl_cons, List.foldl_nil, List.setIfInBounds_toArray, List.set_cons_zero, List.set_cons_succ]
  rcases Bool.eq_false_or_eq_true ((eg == 0)) with t1 | t1
  · have t1_ := Lib.hid t1
    clear t1
    go_upto_region 4 with fail
    refine region_memo_f (B := W2.heap.size) (L := .val (.int .i64 eg) :: .val (.bool false) :: []) (by kernel_rfl) (Nat.le_refl _) ((by exact trivial))
      ⟨fun a w R => mv (R.slot 7 rfl), fun a w R => c_neq_tk (R.val 0) (Tryd.underlying27) (by rw [t1_.out]; rfl), trivial⟩ (fun act_ W3 I => ?_)
    rw [I.act [(22, .int .i64 eg), (23, .bool false)]
      ⟨I.val 0, I.val 1, trivial⟩ rfl]
    have sW3 : W2.heap.size ≤ W3.heap.size := I.below.size
    replace ow2 := I.keep ow2 trivial
    replace ow3 := I.keep ow3 trivial
    replace ow4 := I.keep ow4 trivial
    replace ow6 := I.keep ow6 trivial
    have hW3 : Below w.heap.size w W3 := then_ hW2 I.below hW2.size
    clear I
    simp only [List.foldl_cons, List.foldl_nil, List.setIfInBounds_toArray, List.set_cons_zero, List.set_cons_succ]
    go_upto_region 6 with fail
    refine region_memo_f (B := W3.heap.size) (L := .val (.agg #[.int .u64 (L0 d), .int .u64 (L1 d), .int .u64 (L2 d), .int .u64 (L3 d)]) :: .val (.int .i64 (sgnZ d)) :: .val (.bool false) :: []) (by kernel_rfl) (Nat.le_refl _) ((by exact trivial))
      ⟨fun a w R => ld_W (R.slot 3 rfl) (R.keep ow3 trivial) rfl rfl rfl rfl, fun a w R => cl_t (enter_at Tryd.func40) (R.val 0) (sign_b _ hd _), fun a w R => c_lss_tk (R.val 1) (Tryd.underlying3) HS.out, trivial⟩ (fun act_ W4 I => ?_)
    rw [I.act [(26, .agg #[.int .u64 (L0 d), .int .u64 (L1 d), .int .u64 (L2 d), .int .u64 (L3 d)]), (27, .int .i64 (sgnZ d)), (28, .bool false)]
      ⟨I.val 0, I.val 1, I.val 2, trivial⟩ rfl]
    have sW4 : W3.heap.size ≤ W4.heap.size := I.below.size
    replace ow2 := I.keep ow2 trivial
    replace ow3 := I.keep ow3 trivial
    replace ow4 := I.keep ow4 trivial
    replace ow6 := I.keep ow6 trivial
    have hW4 : Below w.heap.size w W4 := then_ hW3 I.below hW3.size
    clear I
    simp only [List.foldl_cons, List.foldl_nil, List.setIfInBounds_toArray, List.set_cons_zero, List.set_cons_succ]
    go_upto_region 8 with fail
    refine region_memo_f (B := W4.heap.size) (L := .val (.agg #[.int .u64 (L0 n), .int .u64 (L1 n), .int .u64 (L2 n), .int .u64 (L3 n)]) :: .val (.agg #[.int .u64 (L0 g), .int .u64 (L1 g), .int .u64 (L2 g), .int .u64 (L3 g)]) :: .val (.tuple #[.agg #[.int .u64 (L0 p), .int .u64 (L1 p), .int .u64 (L2 p), .int .u64 (L3 p)], .agg #[.int .u64 (L0 r1), .int .u64 (L1 r1), .int .u64 (L2 r1), .int .u64 (L3 r1)], .int .i64 e1]) :: .val (.tuple #[.agg #[.int .u64 (L0 p), .int .u64 (L1 p), .int .u64 (L2 p), .int .u64 (L3 p)], .agg #[.int .u64 (L0 r1), .int .u64 (L1 r1), .int .u64 (L2 r1), .int .u64 (L3 r1)], .int .i64 e1]) :: .val (.agg #[.int .u64 (L0 p), .int .u64 (L1 p), .int .u64 (L2 p), .int .u64 (L3 p)]) :: .val (.agg #[.int .u64 (L0 r1), .int .u64 (L1 r1), .int .u64 (L2 r1), .int .u64 (L3 r1)]) :: .val (.int .i64 e1) :: .blk 24 4 :: .blk 24 4 :: .put 8 24 #[.int .u64 (L0 p), .int .u64 (L1 p), .int .u64 (L2 p), .int .u64 (L3 p)] :: .put 9 24 #[.int .u64 (L0 r1), .int .u64 (L1 r1), .int .u64 (L2 r1), .int .u64 (L3 r1)] :: .val (.int .i64 e1) :: []) (by kernel_rfl) (Nat.le_refl _) ((by exact trivial))
      ⟨fun a w R => ld_W (R.slot 2 rfl) (R.keep ow2 trivial) rfl rfl rfl rfl, fun a w R => ld_W (R.slot 6 rfl) (R.keep ow6 trivial) rfl rfl rfl rfl, fun a w R => cl_tt (enter_at Tryd.func42) (R.val 0) (R.val 1) (H1.out _), fun a w R => mv (R.val 2), fun a w R => x30 (R.val 3), fun a w R => x31 (R.val 3), fun a w R => x32 (R.val 3), fun a w R => al_W, fun a w R => al_W, fun a w R => sb_W (R.dep 7) (R.val 4), fun a w R => sb_W (R.dep 8) (R.val 5), fun a w R => asg (R.val 6), trivial⟩ (fun act_ W5 I => ?_)
    obtain ⟨gb8, ew8, lw8, ow8⟩ := I.put 9 rfl rfl
    obtain ⟨gb9, ew9, lw9, ow9⟩ := I.put 10 rfl rfl
    have nw8_9 := I.apart2 7 8 rfl rfl (by omega) rfl rfl rfl rfl ew8 ew9
    rw [I.act [(35, .agg #[.int .u64 (L0 n), .int .u64 (L1 n), .int .u64 (L2 n), .int .u64 (L3 n)]), (36, .agg #[.int .u64 (L0 g), .int .u64 (L1 g), .int .u64 (L2 g), .int .u64 (L3 g)]), (37, .tuple #[.agg #[.int .u64 (L0 p), .int .u64 (L1 p), .int .u64 (L2 p), .int .u64 (L3 p)], .agg #[.int .u64 (L0 r1), .int .u64 (L1 r1), .int .u64 (L2 r1), .int .u64 (L3 r1)], .int .i64 e1]), (34, .tuple #[.agg #[.int .u64 (L0 p), .int .u64 (L1 p), .int .u64 (L2 p), .int .u64 (L3 p)], .agg #[.int .u64 (L0 r1), .int .u64 (L1 r1), .int .u64 (L2 r1), .int .u64 (L3 r1)], .int .i64 e1]), (38, .agg #[.int .u64 (L0 p), .int .u64 (L1 p), .int .u64 (L2 p), .int .u64 (L3 p)]), (39, .agg #[.int .u64 (L0 r1), .int .u64 (L1 r1), .int .u64 (L2 r1), .int .u64 (L3 r1)]), (40, .int .i64 e1), (8, .pointer (some ⟨gb8, 0, none⟩)), (9, .pointer (some ⟨gb9, 0, none⟩)), (7, .int .i64 e1)]
      ⟨I.val 0, I.val 1, I.val 2, I.val 3, I.val 4, I.val 5, I.val 6, ew8, ew9, I.val 11, trivial⟩ rfl]
    change W4.heap.size ≤ gb8 at lw8
    change W4.heap.size ≤ gb9 at lw9
    have sW5 : W4.heap.size ≤ W5.heap.size := I.below.size
    replace ow2 := I.keep ow2 trivial
    replace ow3 := I.keep ow3 trivial
    replace ow4 := I.keep ow4 trivial
    replace ow6 := I.keep ow6 trivial
    have hW5 : Below w.heap.size w W5 := then_ hW4 I.below hW4.size
    clear ew8 ew9
    clear I
    simp only [List.foldl_cons, List.foldl_nil, List.setIfInBounds_toArray, List.set_cons_zero, List.set_cons_succ]
    rcases Bool.eq_false_or_eq_true ((e1 == 0)) with t2 | t2
    · have t2_ := Lib.hid t2
      clear t2
      go_upto_region 9 with fail
      refine region_memo_f (B := W5.heap.size) (L := .val (.int .i64 e1) :: .val (.bool false) :: []) (by kernel_rfl) (Nat.le_refl _) ((by exact trivial))
        ⟨fun a w R => mv (R.slot 7 rfl), fun a w R => c_neq_tk (R.val 0) (Tryd.underlying27) (by rw [t2_.out]; rfl), trivial⟩ (fun act_ W6 I => ?_)
      rw [I.act [(41, .int .i64 e1), (42, .bool false)]
        ⟨I.val 0, I.val 1, trivial⟩ rfl]
      have sW6 : W5.heap.size ≤ W6.heap.size := I.below.size
      replace ow2 := I.keep ow2 trivial
      replace ow3 := I.keep ow3 trivial
      replace ow4 := I.keep ow4 trivial
      replace ow6 := I.keep ow6 trivial
      replace ow8 := I.keep ow8 trivial
      replace ow9 := I.keep ow9 trivial
      have hW6 : Below w.heap.size w W6 := then_ hW5 I.below hW5.size
      clear I
      simp only [List.foldl_cons, List.foldl_nil, List.setIfInBounds_toArray, List.set_cons_zero, List.set_cons_succ]
      go_upto_region 11 with fail
      refine region_memo_f (B := W6.heap.size) (L := .val (.agg #[.int .u64 (L0 d), .int .u64 (L1 d), .int .u64 (L2 d), .int .u64 (L3 d)]) :: .val (.agg #[.int .u64 (L0 g), .int .u64 (L1 g), .int .u64 (L2 g), .int .u64 (L3 g)]) :: .val (.tuple #[.agg #[.int .u64 (L0 q), .int .u64 (L1 q), .int .u64 (L2 q), .int .u64 (L3 q)], .agg #[.int .u64 (L0 r2), .int .u64 (L1 r2), .int .u64 (L2 r2), .int .u64 (L3 r2)], .int .i64 e2]) :: .val (.tuple #[.agg #[.int .u64 (L0 q), .int .u64 (L1 q), .int .u64 (L2 q), .int .u64 (L3 q)], .agg #[.int .u64 (L0 r2), .int .u64 (L1 r2), .int .u64 (L2 r2), .int .u64 (L3 r2)], .int .i64 e2]) :: .val (.agg #[.int .u64 (L0 q), .int .u64 (L1 q), .int .u64 (L2 q), .int .u64 (L3 q)]) :: .val (.agg #[.int .u64 (L0 r2), .int .u64 (L1 r2), .int .u64 (L2 r2), .int .u64 (L3 r2)]) :: .val (.int .i64 e2) :: .blk 24 4 :: .blk 24 4 :: .put 10 24 #[.int .u64 (L0 q), .int .u64 (L1 q), .int .u64 (L2 q), .int .u64 (L3 q)] :: .put 11 24 #[.int .u64 (L0 r2), .int .u64 (L1 r2), .int .u64 (L2 r2), .int .u64 (L3 r2)] :: .val (.int .i64 e2) :: []) (by kernel_rfl) (Nat.le_refl _) ((by exact trivial))
        ⟨fun a w R => ld_W (R.slot 3 rfl) (R.keep ow3 trivial) rfl rfl rfl rfl, fun a w R => ld_W (R.slot 6 rfl) (R.keep ow6 trivial) rfl rfl rfl rfl, fun a w R => cl_tt (enter_at Tryd.func42) (R.val 0) (R.val 1) (H2.out _), fun a w R => mv (R.val 2), fun a w R => x30 (R.val 3), fun a w R => x31 (R.val 3), fun a w R => x32 (R.val 3), fun a w R => al_W, fun a w R => al_W, fun a w R => sb_W (R.dep 7) (R.val 4), fun a w R => sb_W (R.dep 8) (R.val 5), fun a w R => asg (R.val 6), trivial⟩ (fun act_ W7 I => ?_)
      obtain ⟨gb10, ew10, lw10, ow10⟩ := I.put 9 rfl rfl
      obtain ⟨gb11, ew11, lw11, ow11⟩ := I.put 10 rfl rfl
      have nw10_11 := I.apart2 7 8 rfl rfl (by omega) rfl rfl rfl rfl ew10 ew11
      rw [I.act [(46, .agg #[.int .u64 (L0 d), .int .u64 (L1 d), .int .u64 (L2 d), .int .u64 (L3 d)]), (47, .agg #[.int .u64 (L0 g), .int .u64 (L1 g), .int .u64 (L2 g), .int .u64 (L3 g)]), (48, .tuple #[.agg #[.int .u64 (L0 q), .int .u64 (L1 q), .int .u64 (L2 q), .int .u64 (L3 q)], .agg #[.int .u64 (L0 r2), .int .u64 (L1 r2), .int .u64 (L2 r2), .int .u64 (L3 r2)], .int .i64 e2]), (45, .tuple #[.agg #[.int .u64 (L0 q), .int .u64 (L1 q), .int .u64 (L2 q), .int .u64 (L3 q)], .agg #[.int .u64 (L0 r2), .int .u64 (L1 r2), .int .u64 (L2 r2), .int .u64 (L3 r2)], .int .i64 e2]), (49, .agg #[.int .u64 (L0 q), .int .u64 (L1 q), .int .u64 (L2 q), .int .u64 (L3 q)]), (50, .agg #[.int .u64 (L0 r2), .int .u64 (L1 r2), .int .u64 (L2 r2), .int .u64 (L3 r2)]), (51, .int .i64 e2), (10, .pointer (some ⟨gb10, 0, none⟩)), (11, .pointer (some ⟨gb11, 0, none⟩)), (7, .int .i64 e2)]
        ⟨I.val 0, I.val 1, I.val 2, I.val 3, I.val 4, I.val 5, I.val 6, ew10, ew11, I.val 11, trivial⟩ rfl]
      change W6.heap.size ≤ gb10 at lw10
      change W6.heap.size ≤ gb11 at lw11
      have sW7 : W6.heap.size ≤ W7.heap.size := I.below.size
      replace ow2 := I.keep ow2 trivial
      replace ow3 := I.keep ow3 trivial
      replace ow4 := I.keep ow4 trivial
      replace ow6 := I.keep ow6 trivial
      replace ow8 := I.keep ow8 trivial
      replace ow9 := I.keep ow9 trivial
      have hW7 : Below w.heap.size w W7 := then_ hW6 I.below hW6.size
      clear ew10 ew11
      clear I
      simp only [List.foldl_cons, List.foldl_nil, List.setIfInBounds_toArray, List.set_cons_zero, List.set_cons_succ]
      rcases Bool.eq_false_or_eq_true ((e2 == 0)) with t3 | t3
      · have t3_ := Lib.hid t3
        clear t3
        go_upto_region 12 with fail
        refine region_memo_f (B := W7.heap.size) (L := .val (.int .i64 e2) :: .val (.bool false) :: []) (by kernel_rfl) (Nat.le_refl _) ((by exact trivial))
          ⟨fun a w R => mv (R.slot 7 rfl), fun a w R => c_neq_tk (R.val 0) (Tryd.underlying27) (by rw [t3_.out]; rfl), trivial⟩ (fun act_ W8 I => ?_)
        rw [I.act [(52, .int .i64 e2), (53, .bool false)]
          ⟨I.val 0, I.val 1, trivial⟩ rfl]
        have sW8 : W7.heap.size ≤ W8.heap.size := I.below.size
        replace ow2 := I.keep ow2 trivial
        replace ow3 := I.keep ow3 trivial
        replace ow4 := I.keep ow4 trivial
        replace ow6 := I.keep ow6 trivial
        replace ow8 := I.keep ow8 trivial
        replace ow9 := I.keep ow9 trivial
        replace ow10 := I.keep ow10 trivial
        replace ow11 := I.keep ow11 trivial
        have hW8 : Below w.heap.size w W8 := then_ hW7 I.below hW7.size
        clear I
        simp only [List.foldl_cons, List.foldl_nil, List.setIfInBounds_toArray, List.set_cons_zero, List.set_cons_succ]
        go_upto_region 14 with fail
        refine region_memo_f (B := w.heap.size) (L := .val (.agg #[.int .u64 (L0 p), .int .u64 (L1 p), .int .u64 (L2 p), .int .u64 (L3 p)]) :: .val (.agg #[.int .u64 (L0 q), .int .u64 (L1 q), .int .u64 (L2 q), .int .u64 (L3 q)]) :: .val (.agg #[.int .u64 (L0 p), .int .u64 (L1 p), .int .u64 (L2 p), .int .u64 (L3 p), .int .u64 (L0 q), .int .u64 (L1 q), .int .u64 (L2 q), .int .u64 (L3 q)]) :: .sto (w.heap.size + 1 + 1) 26 #[.int .u64 (L0 p), .int .u64 (L1 p), .int .u64 (L2 p), .int .u64 (L3 p), .int .u64 (L0 q), .int .u64 (L1 q), .int .u64 (L2 q), .int .u64 (L3 q)] :: .val (.int .i64 0) :: []) (by kernel_rfl) (hW8.size) (Olds.v (Olds.v (Olds.v (Olds.s (by omega) ow4.in_ (by repeat' (first | exact trivial | refine Off.v ?_ | refine Off.k ?_ | refine Off.b ?_ | refine Off.n ?_ | refine Off.p ?_ | refine Off.s ?_ ?_ | omega)) (Olds.v trivial)))))
          ⟨fun a w R => ld_W (R.slot 8 rfl) (R.keep ow8 (by repeat' (first | exact trivial | refine Off.v ?_ | refine Off.k ?_ | refine Off.b ?_ | refine Off.n ?_ | refine Off.p ?_ | refine Off.s ?_ ?_ | omega))) rfl rfl rfl rfl, fun a w R => ld_W (R.slot 10 rfl) (R.keep ow10 (by repeat' (first | exact trivial | refine Off.v ?_ | refine Off.k ?_ | refine Off.b ?_ | refine Off.n ?_ | refine Off.p ?_ | refine Off.s ?_ ?_ | omega))) rfl rfl rfl rfl, fun a w R => bdR_tt (R.val 0) (R.val 1), fun a w R => so_R (R.slot 4 rfl) (R.own rfl ow4) rfl (R.val 2), fun a w R => asc, trivial⟩ (fun act_ W9 I => ?_)
        rw [I.act [(56, .agg #[.int .u64 (L0 p), .int .u64 (L1 p), .int .u64 (L2 p), .int .u64 (L3 p)]), (57, .agg #[.int .u64 (L0 q), .int .u64 (L1 q), .int .u64 (L2 q), .int .u64 (L3 q)]), (58, .agg #[.int .u64 (L0 p), .int .u64 (L1 p), .int .u64 (L2 p), .int .u64 (L3 p), .int .u64 (L0 q), .int .u64 (L1 q), .int .u64 (L2 q), .int .u64 (L3 q)]), (5, .int .i64 0)]
          ⟨I.val 0, I.val 1, I.val 2, I.val 4, trivial⟩ rfl]
        have sW9 : W8.heap.size ≤ W9.heap.size := I.below.size
        replace ow2 := I.keep ow2 (by repeat' (first | exact trivial | refine Off.v ?_ | refine Off.k ?_ | refine Off.b ?_ | refine Off.n ?_ | refine Off.p ?_ | refine Off.s ?_ ?_ | omega))
        replace ow3 := I.keep ow3 (by repeat' (first | exact trivial | refine Off.v ?_ | refine Off.k ?_ | refine Off.b ?_ | refine Off.n ?_ | refine Off.p ?_ | refine Off.s ?_ ?_ | omega))
        replace ow6 := I.keep ow6 (by repeat' (first | exact trivial | refine Off.v ?_ | refine Off.k ?_ | refine Off.b ?_ | refine Off.n ?_ | refine Off.p ?_ | refine Off.s ?_ ?_ | omega))
        replace ow8 := I.keep ow8 (by repeat' (first | exact trivial | refine Off.v ?_ | refine Off.k ?_ | refine Off.b ?_ | refine Off.n ?_ | refine Off.p ?_ | refine Off.s ?_ ?_ | omega))
        replace ow9 := I.keep ow9 (by repeat' (first | exact trivial | refine Off.v ?_ | refine Off.k ?_ | refine Off.b ?_ | refine Off.n ?_ | refine Off.p ?_ | refine Off.s ?_ ?_ | omega))
        replace ow10 := I.keep ow10 (by repeat' (first | exact trivial | refine Off.v ?_ | refine Off.k ?_ | refine Off.b ?_ | refine Off.n ?_ | refine Off.p ?_ | refine Off.s ?_ ?_ | omega))
        replace ow11 := I.keep ow11 (by repeat' (first | exact trivial | refine Off.v ?_ | refine Off.k ?_ | refine Off.b ?_ | refine Off.n ?_ | refine Off.p ?_ | refine Off.s ?_ ?_ | omega))
        replace ow4 := I.sto 3 rfl rfl
        have hW9 : Below w.heap.size w W9 := hW8.trans I.below
        clear I
        simp only [List.foldl_cons, List.foldl_nil, List.setIfInBounds_toArray, List.set_cons_zero, List.set_cons_succ]
        obtain ⟨r4_, r4_1, r4_2⟩ := ow4.at_
        clear ow2 ow3 ow4 ow6 ow8 ow9 ow10 ow11
        go_wp2
        try simp only [setCell_drawn]
        refine bodyPost_ret (by first | (simp [results, Tryd.results19, go_sem, r4_]; done) | (simp [results, Tryd.results19, go_sem, r4_]; rfl)) rfl ⟨?_, hW9⟩
        simp only [mkE, t1_.out, t2_.out, t3_.out]; rfl
      · have t3_ := Lib.hid t3
        clear t3
        go_upto_region 12 with fail
        refine region_memo_f (B := W7.heap.size) (L := .val (.int .i64 e2) :: .val (.bool true) :: []) (by kernel_rfl) (Nat.le_refl _) ((by exact trivial))
          ⟨fun a w R => mv (R.slot 7 rfl), fun a w R => c_neq_tk (R.val 0) (Tryd.underlying27) (by rw [t3_.out]; rfl), trivial⟩ (fun act_ W8 I => ?_)
        rw [I.act [(52, .int .i64 e2), (53, .bool true)]
          ⟨I.val 0, I.val 1, trivial⟩ rfl]
        have sW8 : W7.heap.size ≤ W8.heap.size := I.below.size
        replace ow2 := I.keep ow2 trivial
        replace ow3 := I.keep ow3 trivial
        replace ow4 := I.keep ow4 trivial
        replace ow6 := I.keep ow6 trivial
        replace ow8 := I.keep ow8 trivial
        replace ow9 := I.keep ow9 trivial
        replace ow10 := I.keep ow10 trivial
        replace ow11 := I.keep ow11 trivial
        have hW8 : Below w.heap.size w W8 := then_ hW7 I.below hW7.size
        clear I
        simp only [List.foldl_cons, List.foldl_nil, List.setIfInBounds_toArray, List.set_cons_zero, List.set_cons_succ]
        go_upto_region 13 with fail
        refine region_memo_f (B := w.heap.size) (L := .val (.agg #[.int .u64 0, .int .u64 0, .int .u64 0, .int .u64 0, .int .u64 0, .int .u64 0, .int .u64 0, .int .u64 0]) :: .val (.int .i64 e2) :: .sto (w.heap.size + 1 + 1) 26 #[.int .u64 0, .int .u64 0, .int .u64 0, .int .u64 0, .int .u64 0, .int .u64 0, .int .u64 0, .int .u64 0] :: .val (.int .i64 e2) :: []) (by kernel_rfl) (hW8.size) (Olds.v (Olds.v (Olds.s (by omega) ow4.in_ (by repeat' (first | exact trivial | refine Off.v ?_ | refine Off.k ?_ | refine Off.b ?_ | refine Off.n ?_ | refine Off.p ?_ | refine Off.s ?_ ?_ | omega)) (Olds.v trivial))))
          ⟨fun a w R => bd0_R, fun a w R => mv (R.slot 7 rfl), fun a w R => so_R (R.slot 4 rfl) (R.own rfl ow4) rfl (R.val 0), fun a w R => asg (R.val 1), trivial⟩ (fun act_ W9 I => ?_)
        rw [I.act [(54, .agg #[.int .u64 0, .int .u64 0, .int .u64 0, .int .u64 0, .int .u64 0, .int .u64 0, .int .u64 0, .int .u64 0]), (55, .int .i64 e2), (5, .int .i64 e2)]
          ⟨I.val 0, I.val 1, I.val 3, trivial⟩ rfl]
        have sW9 : W8.heap.size ≤ W9.heap.size := I.below.size
        replace ow2 := I.keep ow2 (by repeat' (first | exact trivial | refine Off.v ?_ | refine Off.k ?_ | refine Off.b ?_ | refine Off.n ?_ | refine Off.p ?_ | refine Off.s ?_ ?_ | omega))
        replace ow3 := I.keep ow3 (by repeat' (first | exact trivial | refine Off.v ?_ | refine Off.k ?_ | refine Off.b ?_ | refine Off.n ?_ | refine Off.p ?_ | refine Off.s ?_ ?_ | omega))
        replace ow6 := I.keep ow6 (by repeat' (first | exact trivial | refine Off.v ?_ | refine Off.k ?_ | refine Off.b ?_ | refine Off.n ?_ | refine Off.p ?_ | refine Off.s ?_ ?_ | omega))
        replace ow8 := I.keep ow8 (by repeat' (first | exact trivial | refine Off.v ?_ | refine Off.k ?_ | refine Off.b ?_ | refine Off.n ?_ | refine Off.p ?_ | refine Off.s ?_ ?_ | omega))
        replace ow9 := I.keep ow9 (by repeat' (first | exact trivial | refine Off.v ?_ | refine Off.k ?_ | refine Off.b ?_ | refine Off.n ?_ | refine Off.p ?_ | refine Off.s ?_ ?_ | omega))
        replace ow10 := I.keep ow10 (by repeat' (first | exact trivial | refine Off.v ?_ | refine Off.k ?_ | refine Off.b ?_ | refine Off.n ?_ | refine Off.p ?_ | refine Off.s ?_ ?_ | omega))
        replace ow11 := I.keep ow11 (by repeat' (first | exact trivial | refine Off.v ?_ | refine Off.k ?_ | refine Off.b ?_ | refine Off.n ?_ | refine Off.p ?_ | refine Off.s ?_ ?_ | omega))
        replace ow4 := I.sto 2 rfl rfl
        have hW9 : Below w.heap.size w W9 := hW8.trans I.below
        clear I
        simp only [List.foldl_cons, List.foldl_nil, List.setIfInBounds_toArray, List.set_cons_zero, List.set_cons_succ]
        obtain ⟨r4_, r4_1, r4_2⟩ := ow4.at_
        clear ow2 ow3 ow4 ow6 ow8 ow9 ow10 ow11
        go_wp2
        try simp only [setCell_drawn]
        refine bodyPost_ret (by first | (simp [results, Tryd.results19, go_sem, r4_]; done) | (simp [results, Tryd.results19, go_sem, r4_]; rfl)) rfl ⟨?_, hW9⟩
        simp only [mkE, t1_.out, t2_.out, t3_.out]; rfl
    · have t2_ := Lib.hid t2
      clear t2
      go_upto_region 9 with fail
      refine region_memo_f (B := W5.heap.size) (L := .val (.int .i64 e1) :: .val (.bool true) :: []) (by kernel_rfl) (Nat.le_refl _) ((by exact trivial))
        ⟨fun a w R => mv (R.slot 7 rfl), fun a w R => c_neq_tk (R.val 0) (Tryd.underlying27) (by rw [t2_.out]; rfl), trivial⟩ (fun act_ W6 I => ?_)
      rw [I.act [(41, .int .i64 e1), (42, .bool true)]
        ⟨I.val 0, I.val 1, trivial⟩ rfl]
      have sW6 : W5.heap.size ≤ W6.heap.size := I.below.size
      replace ow2 := I.keep ow2 trivial
      replace ow3 := I.keep ow3 trivial
      replace ow4 := I.keep ow4 trivial
      replace ow6 := I.keep ow6 trivial
      replace ow8 := I.keep ow8 trivial
      replace ow9 := I.keep ow9 trivial
      have hW6 : Below w.heap.size w W6 := then_ hW5 I.below hW5.size
      clear I
      simp only [List.foldl_cons, List.foldl_nil, List.setIfInBounds_toArray, List.set_cons_zero, List.set_cons_succ]
      go_upto_region 10 with fail
      refine region_memo_f (B := w.heap.size) (L := .val (.agg #[.int .u64 0, .int .u64 0, .int .u64 0, .int .u64 0, .int .u64 0, .int .u64 0, .int .u64 0, .int .u64 0]) :: .val (.int .i64 e1) :: .sto (w.heap.size + 1 + 1) 26 #[.int .u64 0, .int .u64 0, .int .u64 0, .int .u64 0, .int .u64 0, .int .u64 0, .int .u64 0, .int .u64 0] :: .val (.int .i64 e1) :: []) (by kernel_rfl) (hW6.size) (Olds.v (Olds.v (Olds.s (by omega) ow4.in_ (by repeat' (first | exact trivial | refine Off.v ?_ | refine Off.k ?_ | refine Off.b ?_ | refine Off.n ?_ | refine Off.p ?_ | refine Off.s ?_ ?_ | omega)) (Olds.v trivial))))
        ⟨fun a w R => bd0_R, fun a w R => mv (R.slot 7 rfl), fun a w R => so_R (R.slot 4 rfl) (R.own rfl ow4) rfl (R.val 0), fun a w R => asg (R.val 1), trivial⟩ (fun act_ W7 I => ?_)
      rw [I.act [(43, .agg #[.int .u64 0, .int .u64 0, .int .u64 0, .int .u64 0, .int .u64 0, .int .u64 0, .int .u64 0, .int .u64 0]), (44, .int .i64 e1), (5, .int .i64 e1)]
        ⟨I.val 0, I.val 1, I.val 3, trivial⟩ rfl]
      have sW7 : W6.heap.size ≤ W7.heap.size := I.below.size
      replace ow2 := I.keep ow2 (by repeat' (first | exact trivial | refine Off.v ?_ | refine Off.k ?_ | refine Off.b ?_ | refine Off.n ?_ | refine Off.p ?_ | refine Off.s ?_ ?_ | omega))
      replace ow3 := I.keep ow3 (by repeat' (first | exact trivial | refine Off.v ?_ | refine Off.k ?_ | refine Off.b ?_ | refine Off.n ?_ | refine Off.p ?_ | refine Off.s ?_ ?_ | omega))
      replace ow6 := I.keep ow6 (by repeat' (first | exact trivial | refine Off.v ?_ | refine Off.k ?_ | refine Off.b ?_ | refine Off.n ?_ | refine Off.p ?_ | refine Off.s ?_ ?_ | omega))
      replace ow8 := I.keep ow8 (by repeat' (first | exact trivial | refine Off.v ?_ | refine Off.k ?_ | refine Off.b ?_ | refine Off.n ?_ | refine Off.p ?_ | refine Off.s ?_ ?_ | omega))
      replace ow9 := I.keep ow9 (by repeat' (first | exact trivial | refine Off.v ?_ | refine Off.k ?_ | refine Off.b ?_ | refine Off.n ?_ | refine Off.p ?_ | refine Off.s ?_ ?_ | omega))
      replace ow4 := I.sto 2 rfl rfl
      have hW7 : Below w.heap.size w W7 := hW6.trans I.below
      clear I
      simp only [List.foldl_cons, List.foldl_nil, List.setIfInBounds_toArray, List.set_cons_zero, List.set_cons_succ]
      obtain ⟨r4_, r4_1, r4_2⟩ := ow4.at_
      clear ow2 ow3 ow4 ow6 ow8 ow9
      go_wp2
      try simp only [setCell_drawn]
      refine bodyPost_ret (by first | (simp [results, Tryd.results19, go_sem, r4_]; done) | (simp [results, Tryd.results19, go_sem, r4_]; rfl)) rfl ⟨?_, hW7⟩
      simp only [mkE, t1_.out, t2_.out]; rfl
  · have t1_ := Lib.hid t1
    clear t1
    go_upto_region 4 with fail
    refine region_memo_f (B := W2.heap.size) (L := .val (.int .i64 eg) :: .val (.bool true) :: []) (by kernel_rfl) (Nat.le_refl _) ((by exact trivial))
      ⟨fun a w R => mv (R.slot 7 rfl), fun a w R => c_neq_tk (R.val 0) (Tryd.underlying27) (by rw [t1_.out]; rfl), trivial⟩ (fun act_ W3 I => ?_)
    rw [I.act [(22, .int .i64 eg), (23, .bool true)]
      ⟨I.val 0, I.val 1, trivial⟩ rfl]
    have sW3 : W2.heap.size ≤ W3.heap.size := I.below.size
    replace ow2 := I.keep ow2 trivial
    replace ow3 := I.keep ow3 trivial
    replace ow4 := I.keep ow4 trivial
    replace ow6 := I.keep ow6 trivial
    have hW3 : Below w.heap.size w W3 := then_ hW2 I.below hW2.size
    clear I
    simp only [List.foldl_cons, List.foldl_nil, List.setIfInBounds_toArray, List.set_cons_zero, List.set_cons_succ]
    go_upto_region 5 with fail
    refine region_memo_f (B := w.heap.size) (L := .val (.agg #[.int .u64 0, .int .u64 0, .int .u64 0, .int .u64 0, .int .u64 0, .int .u64 0, .int .u64 0, .int .u64 0]) :: .val (.int .i64 eg) :: .sto (w.heap.size + 1 + 1) 26 #[.int .u64 0, .int .u64 0, .int .u64 0, .int .u64 0, .int .u64 0, .int .u64 0, .int .u64 0, .int .u64 0] :: .val (.int .i64 eg) :: []) (by kernel_rfl) (hW3.size) (Olds.v (Olds.v (Olds.s (by omega) ow4.in_ (by repeat' (first | exact trivial | refine Off.v ?_ | refine Off.k ?_ | refine Off.b ?_ | refine Off.n ?_ | refine Off.p ?_ | refine Off.s ?_ ?_ | omega)) (Olds.v trivial))))
      ⟨fun a w R => bd0_R, fun a w R => mv (R.slot 7 rfl), fun a w R => so_R (R.slot 4 rfl) (R.own rfl ow4) rfl (R.val 0), fun a w R => asg (R.val 1), trivial⟩ (fun act_ W4 I => ?_)
    rw [I.act [(24, .agg #[.int .u64 0, .int .u64 0, .int .u64 0, .int .u64 0, .int .u64 0, .int .u64 0, .int .u64 0, .int .u64 0]), (25, .int .i64 eg), (5, .int .i64 eg)]
      ⟨I.val 0, I.val 1, I.val 3, trivial⟩ rfl]
    have sW4 : W3.heap.size ≤ W4.heap.size := I.below.size
    replace ow2 := I.keep ow2 (by repeat' (first | exact trivial | refine Off.v ?_ | refine Off.k ?_ | refine Off.b ?_ | refine Off.n ?_ | refine Off.p ?_ | refine Off.s ?_ ?_ | omega))
    replace ow3 := I.keep ow3 (by repeat' (first | exact trivial | refine Off.v ?_ | refine Off.k ?_ | refine Off.b ?_ | refine Off.n ?_ | refine Off.p ?_ | refine Off.s ?_ ?_ | omega))
    replace ow6 := I.keep ow6 (by repeat' (first | exact trivial | refine Off.v ?_ | refine Off.k ?_ | refine Off.b ?_ | refine Off.n ?_ | refine Off.p ?_ | refine Off.s ?_ ?_ | omega))
    replace ow4 := I.sto 2 rfl rfl
    have hW4 : Below w.heap.size w W4 := hW3.trans I.below
    clear I
    simp only [List.foldl_cons, List.foldl_nil, List.setIfInBounds_toArray, List.set_cons_zero, List.set_cons_succ]
    obtain ⟨r4_, r4_1, r4_2⟩ := ow4.at_
    clear ow2 ow3 ow4 ow6
    go_wp2
    try simp only [setCell_drawn]
    refine bodyPost_ret (by first | (simp [results, Tryd.results19, go_sem, r4_]; done) | (simp [results, Tryd.results19, go_sem, r4_]; rfl)) rfl ⟨?_, hW4⟩
    simp only [mkE, t1_.out]; rfl
set_option maxHeartbeats 16000000 in
set_option maxRecDepth 20000 in
theorem Make_zero {n : Int} (w : World) : Calls Tryd.prog 19 #[.agg #[.int .u64 (L0 n), .int .u64 (L1 n), .int .u64 (L2 n), .int .u64 (L3 n)], .agg #[.int .u64 (L0 0), .int .u64 (L1 0), .int .u64 (L2 0), .int .u64 (L3 0)]] w fun e w' => e = .returned (.tuple #[.agg #[.int .u64 (L0 0), .int .u64 (L1 0), .int .u64 (L2 0), .int .u64 (L3 0), .int .u64 (L0 0), .int .u64 (L1 0), .int .u64 (L2 0), .int .u64 (L3 0)], .int .i64 4]) ∧ Below w.heap.size w w' := by
  have HD : Hid (decide ((0 : Int) = 0) = true) := Lib.hid rfl
  go_enter Tryd.func19, Tryd.ntmps19
  go_upto_region 1 with fail
  go_name_world W0 hW0e
  have ow2 : Own W0 w.heap.size 24 #[.int .u64 (L0 n), .int .u64 (L1 n), .int .u64 (L2 n), .int .u64 (L3 n)] := hW0e ▸ (by repeat' (first | (with_reducible assumption) | (with_reducible refine Own.drawnN ?_ _) | (with_reducible refine Own.drawn ?_) | (with_reducible refine Own.made_at ?_; first | rfl | (simp; done) | omega | (simp; omega)) | (with_reducible refine Own.more ?_ _) | (with_reducible refine Own.apart ?_ ?_ _ _; rotate_left; first | omega | (simp; done) | (simp; omega)) | (refine Own.put ?_ _ _)))
  have ow3 : Own W0 (w.heap.size + 1) 24 #[.int .u64 (L0 0), .int .u64 (L1 0), .int .u64 (L2 0), .int .u64 (L3 0)] := hW0e ▸ (by repeat' (first | (with_reducible assumption) | (with_reducible refine Own.drawnN ?_ _) | (with_reducible refine Own.drawn ?_) | (with_reducible refine Own.made_at ?_; first | rfl | (simp; done) | omega | (simp; omega)) | (with_reducible refine Own.more ?_ _) | (with_reducible refine Own.apart ?_ ?_ _ _; rotate_left; first | omega | (simp; done) | (simp; omega)) | (refine Own.put ?_ _ _)))
  have ow4 : Own W0 (w.heap.size + 1 + 1) 26 #[.int .u64 0, .int .u64 0, .int .u64 0, .int .u64 0, .int .u64 0, .int .u64 0, .int .u64 0, .int .u64 0] := hW0e ▸ (by repeat' (first | (with_reducible assumption) | (with_reducible refine Own.drawnN ?_ _) | (with_reducible refine Own.drawn ?_) | (with_reducible refine Own.made_at ?_; first | rfl | (simp; done) | omega | (simp; omega)) | (with_reducible refine Own.more ?_ _) | (with_reducible refine Own.apart ?_ ?_ _ _; rotate_left; first | omega | (simp; done) | (simp; omega)) | (refine Own.put ?_ _ _)))
  have hW0 : Below w.heap.size w W0 := hW0e ▸ (by repeat' (first | (with_reducible exact Below.refl _ _) | (with_reducible assumption) | (with_reducible refine below_drewN ?_ _) | (with_reducible refine Below.drew ?_) | (with_reducible refine Below.alloc ?_ ?_ _) | (with_reducible refine Below.setCell ?_ ?_ _) | (with_reducible refine then_ ?_ (by with_reducible assumption) ?_) | (with_reducible exact Nat.le_refl _) | (with_reducible exact Nat.le_succ _) | (with_reducible exact Nat.le_succ_of_le (by with_reducible assumption)) | omega | (simp; done) | (simp; omega) | (exact Nat.le_succ _) | (exact Nat.le_succ_of_le (by with_reducible assumption))))
  clear hW0e
  have z0 := ow4.in_
  go_upto_region 1 with fail
  refine region_memo_f (B := W0.heap.size) (L := .val (.agg #[.int .u64 (L0 0), .int .u64 (L1 0), .int .u64 (L2 0), .int .u64 (L3 0)]) :: .val (.agg #[.int .u64 0, .int .u64 0, .int .u64 0, .int .u64 0]) :: .val (.bool true) :: []) (by kernel_rfl) (Nat.le_refl _) ((by exact trivial))
    ⟨fun a w R => ld_W (R.slot 3 rfl) (R.keep ow3 trivial) rfl rfl rfl rfl, fun a w R => bd0_W, fun a w R => (e_eql_W (R.val 0) (R.val 1) (fun w => (eq_fit (a := 0) (b := 0) ⟨by decide, by decide⟩ ⟨by decide, by decide⟩ w).trans (by rw [HD.out]))), trivial⟩ (fun act_ W1 I => ?_)
  rw [I.act [(12, .agg #[.int .u64 (L0 0), .int .u64 (L1 0), .int .u64 (L2 0), .int .u64 (L3 0)]), (13, .agg #[.int .u64 0, .int .u64 0, .int .u64 0, .int .u64 0]), (14, .bool true)]
    ⟨I.val 0, I.val 1, I.val 2, trivial⟩ rfl]
  have sW1 : W0.heap.size ≤ W1.heap.size := I.below.size
  replace ow2 := I.keep ow2 trivial
  replace ow3 := I.keep ow3 trivial
  replace ow4 := I.keep ow4 trivial
  have hW1 : Below w.heap.size w W1 := then_ hW0 I.below hW0.size
  clear I
  simp only [List.foldl_cons, List.foldl_nil, List.setIfInBounds_toArray, List.set_cons_zero, List.set_cons_succ]
  go_upto_region 2 with fail
  refine region_memo_f (B := w.heap.size) (L := .val (.agg #[.int .u64 0, .int .u64 0, .int .u64 0, .int .u64 0, .int .u64 0, .int .u64 0, .int .u64 0, .int .u64 0]) :: .sto (w.heap.size + 1 + 1) 26 #[.int .u64 0, .int .u64 0, .int .u64 0, .int .u64 0, .int .u64 0, .int .u64 0, .int .u64 0, .int .u64 0] :: .val (.int .i64 4) :: []) (by kernel_rfl) (hW1.size) (Olds.v (Olds.s (by omega) ow4.in_ (by repeat' (first | exact trivial | refine Off.v ?_ | refine Off.k ?_ | refine Off.b ?_ | refine Off.n ?_ | refine Off.p ?_ | refine Off.s ?_ ?_ | omega)) (Olds.v trivial)))
    ⟨fun a w R => bd0_R, fun a w R => so_R (R.slot 4 rfl) (R.own rfl ow4) rfl (R.val 0), fun a w R => asc, trivial⟩ (fun act_ W2 I => ?_)
  rw [I.act [(15, .agg #[.int .u64 0, .int .u64 0, .int .u64 0, .int .u64 0, .int .u64 0, .int .u64 0, .int .u64 0, .int .u64 0]), (5, .int .i64 4)]
    ⟨I.val 0, I.val 2, trivial⟩ rfl]
  have sW2 : W1.heap.size ≤ W2.heap.size := I.below.size
  replace ow2 := I.keep ow2 (by repeat' (first | exact trivial | refine Off.v ?_ | refine Off.k ?_ | refine Off.b ?_ | refine Off.n ?_ | refine Off.p ?_ | refine Off.s ?_ ?_ | omega))
  replace ow3 := I.keep ow3 (by repeat' (first | exact trivial | refine Off.v ?_ | refine Off.k ?_ | refine Off.b ?_ | refine Off.n ?_ | refine Off.p ?_ | refine Off.s ?_ ?_ | omega))
  replace ow4 := I.sto 1 rfl rfl
  have hW2 : Below w.heap.size w W2 := hW1.trans I.below
  clear I
  simp only [List.foldl_cons, List.foldl_nil, List.setIfInBounds_toArray, List.set_cons_zero, List.set_cons_succ]
  obtain ⟨r4_, r4_1, r4_2⟩ := ow4.at_
  clear ow2 ow3 ow4
  go_wp2
  try simp only [setCell_drawn]
  refine bodyPost_ret (by first | (simp [results, Tryd.results19, go_sem, r4_]; done) | (simp [results, Tryd.results19, go_sem, r4_]; rfl)) rfl ⟨?_, hW2⟩
  rfl
end Go.Proofs.YtjmojddnedngaaaDoor
