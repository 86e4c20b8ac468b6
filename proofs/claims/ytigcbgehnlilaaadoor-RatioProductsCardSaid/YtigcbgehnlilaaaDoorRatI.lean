
/- reckon of ratio in general: what it answers of two fractions and a closure that tells Num, Den and the first error; written by auto_reckon.py. Conditions: those that each theorem names. -/
import Derived.Test.YtigcbgehnlilaaaDoorRatH
import Derived.Test.YtigcbgehnlilaaaDoorQatB
namespace Go.Proofs.YtigcbgehnlilaaaDoor
open Go.ChangeShapes Go.WideShapes Go.ChangeAt Go.RowKit
set_option linter.unusedVariables false
set_option linter.unusedSimpArgs false
/-- what reckon answers -/
def rkV (an ad bn bd N D EE : Int) : Value := if decide (Rgt an ad) then (if decide (Rgt bn bd) then (if (EE == 0) then .tuple #[.agg #[.int .u64 (L0 (mkP N D)), .int .u64 (L1 (mkP N D)), .int .u64 (L2 (mkP N D)), .int .u64 (L3 (mkP N D)), .int .u64 (L0 (mkQ N D)), .int .u64 (L1 (mkQ N D)), .int .u64 (L2 (mkQ N D)), .int .u64 (L3 (mkQ N D))], .int .i64 (mkR N D)] else .tuple #[.agg #[.int .u64 (L0 0), .int .u64 (L1 0), .int .u64 (L2 0), .int .u64 (L3 0), .int .u64 (L0 0), .int .u64 (L1 0), .int .u64 (L2 0), .int .u64 (L3 0)], .int .i64 EE]) else .tuple #[.agg #[.int .u64 (L0 0), .int .u64 (L1 0), .int .u64 (L2 0), .int .u64 (L3 0), .int .u64 (L0 0), .int .u64 (L1 0), .int .u64 (L2 0), .int .u64 (L3 0)], .int .i64 1]) else .tuple #[.agg #[.int .u64 (L0 0), .int .u64 (L1 0), .int .u64 (L2 0), .int .u64 (L3 0), .int .u64 (L0 0), .int .u64 (L1 0), .int .u64 (L2 0), .int .u64 (L3 0)], .int .i64 1]
set_option maxHeartbeats 16000000 in
set_option maxRecDepth 20000 in
theorem rk_Mul {an ad bn bd : Int} (han : Fit an) (had : Fit ad) (hbn : Fit bn) (hbd : Fit bd) {N D EE : Int} (hN : Fit N) (hD : Fit D) {c0 c1 : Value} {w : World} (PF0 : ∀ W p, Below w.heap.size w W → Own W p 27 #[.int .i64 0] → w.heap.size ≤ p → Calls Tryd.prog 27 #[.func (.func 53) #[] #[.pointer (some ⟨p, 0, none⟩)], c0, c1] W fun e w' => e = .returned (.tuple #[.agg #[.int .u64 (L0 N), .int .u64 (L1 N), .int .u64 (L2 N), .int .u64 (L3 N)], .agg #[.int .u64 (L0 D), .int .u64 (L1 D), .int .u64 (L2 D), .int .u64 (L3 D)]]) ∧ But p W w' ∧ Own w' p 27 #[.int .i64 EE]) : Calls Tryd.prog 26 #[.agg #[.int .u64 (L0 an), .int .u64 (L1 an), .int .u64 (L2 an), .int .u64 (L3 an), .int .u64 (L0 ad), .int .u64 (L1 ad), .int .u64 (L2 ad), .int .u64 (L3 ad)], .agg #[.int .u64 (L0 bn), .int .u64 (L1 bn), .int .u64 (L2 bn), .int .u64 (L3 bn), .int .u64 (L0 bd), .int .u64 (L1 bd), .int .u64 (L2 bd), .int .u64 (L3 bd)], .func (.func 27) #[] #[c0, c1]] w fun e w' => e = .returned (rkV an ad bn bd N D EE) ∧ Below w.heap.size w w' := by
  have PF := Lib.hid PF0
  clear PF0
  go_enter Tryd.func26, Tryd.ntmps26
  go_upto_region 1 with fail
  go_name_world W0 hW0e
  have ow3 : Own W0 w.heap.size 26 #[.int .u64 (L0 an), .int .u64 (L1 an), .int .u64 (L2 an), .int .u64 (L3 an), .int .u64 (L0 ad), .int .u64 (L1 ad), .int .u64 (L2 ad), .int .u64 (L3 ad)] := hW0e ▸ (by repeat' (first | (with_reducible assumption) | (with_reducible refine Own.drawnN ?_ _) | (with_reducible refine Own.drawn ?_) | (with_reducible refine Own.made_at ?_; first | rfl | (simp; done) | omega | (simp; omega)) | (with_reducible refine Own.more ?_ _) | (with_reducible refine Own.apart ?_ ?_ _ _; rotate_left; first | omega | (simp; done) | (simp; omega)) | (refine Own.put ?_ _ _)))
  have ow4 : Own W0 (w.heap.size + 1) 26 #[.int .u64 (L0 bn), .int .u64 (L1 bn), .int .u64 (L2 bn), .int .u64 (L3 bn), .int .u64 (L0 bd), .int .u64 (L1 bd), .int .u64 (L2 bd), .int .u64 (L3 bd)] := hW0e ▸ (by repeat' (first | (with_reducible assumption) | (with_reducible refine Own.drawnN ?_ _) | (with_reducible refine Own.drawn ?_) | (with_reducible refine Own.made_at ?_; first | rfl | (simp; done) | omega | (simp; omega)) | (with_reducible refine Own.more ?_ _) | (with_reducible refine Own.apart ?_ ?_ _ _; rotate_left; first | omega | (simp; done) | (simp; omega)) | (refine Own.put ?_ _ _)))
  have ow6 : Own W0 (w.heap.size + 1 + 1) 26 #[.int .u64 0, .int .u64 0, .int .u64 0, .int .u64 0, .int .u64 0, .int .u64 0, .int .u64 0, .int .u64 0] := hW0e ▸ (by repeat' (first | (with_reducible assumption) | (with_reducible refine Own.drawnN ?_ _) | (with_reducible refine Own.drawn ?_) | (with_reducible refine Own.made_at ?_; first | rfl | (simp; done) | omega | (simp; omega)) | (with_reducible refine Own.more ?_ _) | (with_reducible refine Own.apart ?_ ?_ _ _; rotate_left; first | omega | (simp; done) | (simp; omega)) | (refine Own.put ?_ _ _)))
  have hW0 : Below w.heap.size w W0 := hW0e ▸ (by repeat' (first | (with_reducible exact Below.refl _ _) | (with_reducible assumption) | (with_reducible refine below_drewN ?_ _) | (with_reducible refine Below.drew ?_) | (with_reducible refine Below.alloc ?_ ?_ _) | (with_reducible refine Below.setCell ?_ ?_ _) | (with_reducible refine then_ ?_ (by with_reducible assumption) ?_) | (with_reducible exact Nat.le_refl _) | (with_reducible exact Nat.le_succ _) | (with_reducible exact Nat.le_succ_of_le (by with_reducible assumption)) | omega | (simp; done) | (simp; omega) | (exact Nat.le_succ _) | (exact Nat.le_succ_of_le (by with_reducible assumption))))
  clear hW0e
  have zown := ow6.in_
  rcases Bool.eq_false_or_eq_true (decide (Rgt an ad)) with t1 | t1
  · have t1_ := Lib.hid t1
    clear t1
    rcases Bool.eq_false_or_eq_true (decide (Rgt bn bd)) with t2 | t2
    · have t2_ := Lib.hid t2
      clear t2
      go_upto_region 1 with fail
      refine region_memo_f (B := W0.heap.size) (L := .val (.agg #[.int .u64 (L0 an), .int .u64 (L1 an), .int .u64 (L2 an), .int .u64 (L3 an), .int .u64 (L0 ad), .int .u64 (L1 ad), .int .u64 (L2 ad), .int .u64 (L3 ad)]) :: .val (.bool true) :: .val (.bool false) :: .val (.bool false) :: .val (.agg #[.int .u64 (L0 bn), .int .u64 (L1 bn), .int .u64 (L2 bn), .int .u64 (L3 bn), .int .u64 (L0 bd), .int .u64 (L1 bd), .int .u64 (L2 bd), .int .u64 (L3 bd)]) :: .val (.bool true) :: .val (.bool false) :: .val (.bool false) :: []) (by kernel_rfl) (Nat.le_refl _) ((by exact trivial))
        ⟨fun a w R => ld_R (R.slot 3 rfl) (R.keep ow3 trivial) rfl rfl rfl rfl rfl rfl rfl rfl, fun a w R => cl_t (enter_at Tryd.func10) (R.val 0) (Right_is han had t1_.out _), fun a w R => notb (R.val 1), fun a w R => mv (R.val 2), fun a w R => ld_R (R.slot 4 rfl) (R.keep ow4 trivial) rfl rfl rfl rfl rfl rfl rfl rfl, fun a w R => cl_t (enter_at Tryd.func10) (R.val 4) (Right_is hbn hbd t2_.out _), fun a w R => notb (R.val 5), fun a w R => pickn (R.val 3) (R.val 6), trivial⟩ (fun act_ W1 I => ?_)
      rw [I.act [(11, .agg #[.int .u64 (L0 an), .int .u64 (L1 an), .int .u64 (L2 an), .int .u64 (L3 an), .int .u64 (L0 ad), .int .u64 (L1 ad), .int .u64 (L2 ad), .int .u64 (L3 ad)]), (12, .bool true), (13, .bool false), (14, .bool false), (15, .agg #[.int .u64 (L0 bn), .int .u64 (L1 bn), .int .u64 (L2 bn), .int .u64 (L3 bn), .int .u64 (L0 bd), .int .u64 (L1 bd), .int .u64 (L2 bd), .int .u64 (L3 bd)]), (16, .bool true), (17, .bool false), (18, .bool false)]
        ⟨I.val 0, I.val 1, I.val 2, I.val 3, I.val 4, I.val 5, I.val 6, I.val 7, trivial⟩ rfl]
      have sW1 : W0.heap.size ≤ W1.heap.size := I.below.size
      replace ow3 := I.keep ow3 trivial
      replace ow4 := I.keep ow4 trivial
      replace ow6 := I.keep ow6 trivial
      have hW1 : Below w.heap.size w W1 := then_ hW0 I.below hW0.size
      clear I
      simp only [List.foldl_cons, List.foldl_nil, List.setIfInBounds_toArray, List.set_cons_zero, List.set_cons_succ]
      go_upto_region 3 with fail
      refine region_memo_f (B := W1.heap.size) (L := .blk 27 1 :: .put 8 27 #[.int .i64 0] :: []) (by kernel_rfl) (Nat.le_refl _) ((by exact trivial))
        ⟨fun a w R => al_E, fun a w R => sbk_E (R.dep 0) , trivial⟩ (fun act_ W2 I => ?_)
      obtain ⟨gb8, ew8, lw8, ow8⟩ := I.put 1 rfl rfl
      rw [I.act [(8, .pointer (some ⟨gb8, 0, none⟩))]
        ⟨ew8, trivial⟩ rfl]
      change W1.heap.size ≤ gb8 at lw8
      have sW2 : W1.heap.size ≤ W2.heap.size := I.below.size
      replace ow3 := I.keep ow3 trivial
      replace ow4 := I.keep ow4 trivial
      replace ow6 := I.keep ow6 trivial
      have hW2 : Below w.heap.size w W2 := then_ hW1 I.below hW1.size
      clear ew8
      clear I
      simp only [List.foldl_cons, List.foldl_nil, List.setIfInBounds_toArray, List.set_cons_zero, List.set_cons_succ]
      go_upto_region 4 with fail
      have z8 : w.heap.size ≤ gb8 := Nat.le_trans hW1.size lw8
      have y8 := ow8.in_
      go_upto_region 5 with (go_at_call 27; with_reducible refine (PF.out _ _ hW2 ow8 z8).mono ?_; rintro e wc ⟨rfl, bc, ofc⟩)
      go_name_world W3 hn
      have zc := bc.size
      have ow3_ : Own W3 w.heap.size 26 #[.int .u64 (L0 an), .int .u64 (L1 an), .int .u64 (L2 an), .int .u64 (L3 an), .int .u64 (L0 ad), .int .u64 (L1 ad), .int .u64 (L2 ad), .int .u64 (L3 ad)] := hn ▸ (((bc.own ow3 (by omega)).more _).more _)
      have ow4_ : Own W3 (w.heap.size + 1) 26 #[.int .u64 (L0 bn), .int .u64 (L1 bn), .int .u64 (L2 bn), .int .u64 (L3 bn), .int .u64 (L0 bd), .int .u64 (L1 bd), .int .u64 (L2 bd), .int .u64 (L3 bd)] := hn ▸ (((bc.own ow4 (by omega)).more _).more _)
      have ow6_ : Own W3 (w.heap.size + 1 + 1) 26 #[.int .u64 0, .int .u64 0, .int .u64 0, .int .u64 0, .int .u64 0, .int .u64 0, .int .u64 0, .int .u64 0] := hn ▸ (((bc.own ow6 (by omega)).more _).more _)
      have ow8_ : Own W3 gb8 27 #[.int .i64 EE] := hn ▸ ((ofc.more _).more _)
      have ow9 : Own W3 wc.heap.size 24 #[.int .u64 (L0 N), .int .u64 (L1 N), .int .u64 (L2 N), .int .u64 (L3 N)] := hn ▸ (by repeat' (first | (with_reducible assumption) | (with_reducible refine Own.drawnN ?_ _) | (with_reducible refine Own.drawn ?_) | (with_reducible refine Own.made_at ?_; first | rfl | (simp; done) | omega | (simp; omega)) | (with_reducible refine Own.more ?_ _) | (with_reducible refine Own.apart ?_ ?_ _ _; rotate_left; first | omega | (simp; done) | (simp; omega)) | (refine Own.put ?_ _ _)))
      have ow10 : Own W3 (wc.heap.size + 1) 24 #[.int .u64 (L0 D), .int .u64 (L1 D), .int .u64 (L2 D), .int .u64 (L3 D)] := hn ▸ (by repeat' (first | (with_reducible assumption) | (with_reducible refine Own.drawnN ?_ _) | (with_reducible refine Own.drawn ?_) | (with_reducible refine Own.made_at ?_; first | rfl | (simp; done) | omega | (simp; omega)) | (with_reducible refine Own.more ?_ _) | (with_reducible refine Own.apart ?_ ?_ _ _; rotate_left; first | omega | (simp; done) | (simp; omega)) | (refine Own.put ?_ _ _)))
      have hW3 : Below w.heap.size w W3 := hn ▸ (((hW2.trans (bc.below hW2.size z8)).alloc (Nat.le_trans hW2.size zc) _).alloc (by have := hW2.size; simp; omega) _)
      have sW3 : wc.heap.size + 1 < W3.heap.size := ow10.in_
      clear hn bc ofc ow3 ow4 ow6 ow8
      have ow3 := ow3_
      clear ow3_
      have ow4 := ow4_
      clear ow4_
      have ow6 := ow6_
      clear ow6_
      have ow8 := ow8_
      clear ow8_
      rcases Bool.eq_false_or_eq_true ((EE == 0)) with t3 | t3
      · have t3_ := Lib.hid t3
        clear t3
        go_upto_region 5 with fail
        refine region_memo_f (B := W3.heap.size) (L := .val (.int .i64 EE) :: .val (.bool false) :: []) (by kernel_rfl) (Nat.le_refl _) ((by exact trivial))
          ⟨fun a w R => ld_errno (R.slot 8 rfl) (R.keep ow8 trivial) rfl, fun a w R => c_neq_tk (R.val 0) (Tryd.underlying27) (by rw [t3_.out]; rfl), trivial⟩ (fun act_ W4 I => ?_)
        rw [I.act [(26, .int .i64 EE), (27, .bool false)]
          ⟨I.val 0, I.val 1, trivial⟩ rfl]
        have sW4 : W3.heap.size ≤ W4.heap.size := I.below.size
        replace ow3 := I.keep ow3 trivial
        replace ow4 := I.keep ow4 trivial
        replace ow6 := I.keep ow6 trivial
        replace ow8 := I.keep ow8 trivial
        replace ow9 := I.keep ow9 trivial
        replace ow10 := I.keep ow10 trivial
        have hW4 : Below w.heap.size w W4 := then_ hW3 I.below hW3.size
        clear I
        simp only [List.foldl_cons, List.foldl_nil, List.setIfInBounds_toArray, List.set_cons_zero, List.set_cons_succ]
        go_upto_region 7 with fail
        refine region_memo_f (B := w.heap.size) (L := .val (.agg #[.int .u64 (L0 N), .int .u64 (L1 N), .int .u64 (L2 N), .int .u64 (L3 N)]) :: .val (.agg #[.int .u64 (L0 D), .int .u64 (L1 D), .int .u64 (L2 D), .int .u64 (L3 D)]) :: .val (.tuple #[.agg #[.int .u64 (L0 (mkP N D)), .int .u64 (L1 (mkP N D)), .int .u64 (L2 (mkP N D)), .int .u64 (L3 (mkP N D)), .int .u64 (L0 (mkQ N D)), .int .u64 (L1 (mkQ N D)), .int .u64 (L2 (mkQ N D)), .int .u64 (L3 (mkQ N D))], .int .i64 (mkR N D)]) :: .val (.agg #[.int .u64 (L0 (mkP N D)), .int .u64 (L1 (mkP N D)), .int .u64 (L2 (mkP N D)), .int .u64 (L3 (mkP N D)), .int .u64 (L0 (mkQ N D)), .int .u64 (L1 (mkQ N D)), .int .u64 (L2 (mkQ N D)), .int .u64 (L3 (mkQ N D))]) :: .val (.int .i64 (mkR N D)) :: .sto (w.heap.size + 1 + 1) 26 #[.int .u64 (L0 (mkP N D)), .int .u64 (L1 (mkP N D)), .int .u64 (L2 (mkP N D)), .int .u64 (L3 (mkP N D)), .int .u64 (L0 (mkQ N D)), .int .u64 (L1 (mkQ N D)), .int .u64 (L2 (mkQ N D)), .int .u64 (L3 (mkQ N D))] :: .val (.int .i64 (mkR N D)) :: []) (by kernel_rfl) (hW4.size) (Olds.v (Olds.v (Olds.v (Olds.v (Olds.v (Olds.s (by omega) ow6.in_ (by repeat' (first | exact trivial | refine Off.v ?_ | refine Off.k ?_ | refine Off.b ?_ | refine Off.n ?_ | refine Off.p ?_ | refine Off.s ?_ ?_ | omega)) (Olds.v trivial)))))))
          ⟨fun a w R => ld_W (R.slot 9 rfl) (R.keep ow9 (by repeat' (first | exact trivial | refine Off.v ?_ | refine Off.k ?_ | refine Off.b ?_ | refine Off.n ?_ | refine Off.p ?_ | refine Off.s ?_ ?_ | omega))) rfl rfl rfl rfl, fun a w R => ld_W (R.slot 10 rfl) (R.keep ow10 (by repeat' (first | exact trivial | refine Off.v ?_ | refine Off.k ?_ | refine Off.b ?_ | refine Off.n ?_ | refine Off.p ?_ | refine Off.s ?_ ?_ | omega))) rfl rfl rfl rfl, fun a w R => cl_tt (enter_at Tryd.func29) (R.val 0) (R.val 1) (Make_mk hN hD _), fun a w R => ex0 (R.val 2), fun a w R => ex1 (R.val 2), fun a w R => so_R (R.slot 6 rfl) (R.own rfl ow6) rfl (R.val 3), fun a w R => asg (R.val 4), trivial⟩ (fun act_ W5 I => ?_)
        rw [I.act [(30, .agg #[.int .u64 (L0 N), .int .u64 (L1 N), .int .u64 (L2 N), .int .u64 (L3 N)]), (31, .agg #[.int .u64 (L0 D), .int .u64 (L1 D), .int .u64 (L2 D), .int .u64 (L3 D)]), (32, .tuple #[.agg #[.int .u64 (L0 (mkP N D)), .int .u64 (L1 (mkP N D)), .int .u64 (L2 (mkP N D)), .int .u64 (L3 (mkP N D)), .int .u64 (L0 (mkQ N D)), .int .u64 (L1 (mkQ N D)), .int .u64 (L2 (mkQ N D)), .int .u64 (L3 (mkQ N D))], .int .i64 (mkR N D)]), (33, .agg #[.int .u64 (L0 (mkP N D)), .int .u64 (L1 (mkP N D)), .int .u64 (L2 (mkP N D)), .int .u64 (L3 (mkP N D)), .int .u64 (L0 (mkQ N D)), .int .u64 (L1 (mkQ N D)), .int .u64 (L2 (mkQ N D)), .int .u64 (L3 (mkQ N D))]), (34, .int .i64 (mkR N D)), (7, .int .i64 (mkR N D))]
          ⟨I.val 0, I.val 1, I.val 2, I.val 3, I.val 4, I.val 6, trivial⟩ rfl]
        have sW5 : W4.heap.size ≤ W5.heap.size := I.below.size
        replace ow3 := I.keep ow3 (by repeat' (first | exact trivial | refine Off.v ?_ | refine Off.k ?_ | refine Off.b ?_ | refine Off.n ?_ | refine Off.p ?_ | refine Off.s ?_ ?_ | omega))
        replace ow4 := I.keep ow4 (by repeat' (first | exact trivial | refine Off.v ?_ | refine Off.k ?_ | refine Off.b ?_ | refine Off.n ?_ | refine Off.p ?_ | refine Off.s ?_ ?_ | omega))
        replace ow8 := I.keep ow8 (by repeat' (first | exact trivial | refine Off.v ?_ | refine Off.k ?_ | refine Off.b ?_ | refine Off.n ?_ | refine Off.p ?_ | refine Off.s ?_ ?_ | omega))
        replace ow9 := I.keep ow9 (by repeat' (first | exact trivial | refine Off.v ?_ | refine Off.k ?_ | refine Off.b ?_ | refine Off.n ?_ | refine Off.p ?_ | refine Off.s ?_ ?_ | omega))
        replace ow10 := I.keep ow10 (by repeat' (first | exact trivial | refine Off.v ?_ | refine Off.k ?_ | refine Off.b ?_ | refine Off.n ?_ | refine Off.p ?_ | refine Off.s ?_ ?_ | omega))
        replace ow6 := I.sto 5 rfl rfl
        have hW5 : Below w.heap.size w W5 := hW4.trans I.below
        clear I
        simp only [List.foldl_cons, List.foldl_nil, List.setIfInBounds_toArray, List.set_cons_zero, List.set_cons_succ]
        obtain ⟨r6_, r6_1, r6_2⟩ := ow6.at_
        clear ow3 ow4 ow6 ow8 ow9 ow10
        go_wp2
        try simp only [setCell_drawn]
        refine bodyPost_ret (by first | (simp [results, Tryd.results26, go_sem, r6_]; done) | (simp [results, Tryd.results26, go_sem, r6_]; rfl)) rfl ⟨?_, hW5⟩
        refine congrArg Ending.returned ?_
        simp only [rkV, t1_.out, t2_.out, t3_.out]
        rfl
      · have t3_ := Lib.hid t3
        clear t3
        go_upto_region 5 with fail
        refine region_memo_f (B := W3.heap.size) (L := .val (.int .i64 EE) :: .val (.bool true) :: []) (by kernel_rfl) (Nat.le_refl _) ((by exact trivial))
          ⟨fun a w R => ld_errno (R.slot 8 rfl) (R.keep ow8 trivial) rfl, fun a w R => c_neq_tk (R.val 0) (Tryd.underlying27) (by rw [t3_.out]; rfl), trivial⟩ (fun act_ W4 I => ?_)
        rw [I.act [(26, .int .i64 EE), (27, .bool true)]
          ⟨I.val 0, I.val 1, trivial⟩ rfl]
        have sW4 : W3.heap.size ≤ W4.heap.size := I.below.size
        replace ow3 := I.keep ow3 trivial
        replace ow4 := I.keep ow4 trivial
        replace ow6 := I.keep ow6 trivial
        replace ow8 := I.keep ow8 trivial
        replace ow9 := I.keep ow9 trivial
        replace ow10 := I.keep ow10 trivial
        have hW4 : Below w.heap.size w W4 := then_ hW3 I.below hW3.size
        clear I
        simp only [List.foldl_cons, List.foldl_nil, List.setIfInBounds_toArray, List.set_cons_zero, List.set_cons_succ]
        go_upto_region 6 with fail
        refine region_memo (B := w.heap.size) (L := .val (.agg #[.int .u64 0, .int .u64 0, .int .u64 0, .int .u64 0, .int .u64 0, .int .u64 0, .int .u64 0, .int .u64 0]) :: .val (.int .i64 EE) :: .sto (w.heap.size + 1 + 1) 26 #[.int .u64 0, .int .u64 0, .int .u64 0, .int .u64 0, .int .u64 0, .int .u64 0, .int .u64 0, .int .u64 0] :: .val (.int .i64 EE) :: []) (by kernel_rfl) (by kernel_rfl) (hW4.size) (Olds.v (Olds.v (Olds.s (by omega) ow6.drawn.in_ (by repeat' (first | exact trivial | refine Off.v ?_ | refine Off.k ?_ | refine Off.b ?_ | refine Off.n ?_ | refine Off.p ?_ | refine Off.s ?_ ?_ | omega)) (Olds.v trivial))))
          ⟨fun a w R => bd0_R, fun a w R => ld_errno (R.slot 8 rfl) (R.keep ow8.drawn (by repeat' (first | exact trivial | refine Off.v ?_ | refine Off.k ?_ | refine Off.b ?_ | refine Off.n ?_ | refine Off.p ?_ | refine Off.s ?_ ?_ | omega))) rfl, fun a w R => so_R (R.slot 6 rfl) (R.own rfl ow6.drawn) rfl (R.val 0), fun a w R => asg (R.val 1), trivial⟩ (fun act_ W5 I => ?_)
        rw [I.act [(28, .agg #[.int .u64 0, .int .u64 0, .int .u64 0, .int .u64 0, .int .u64 0, .int .u64 0, .int .u64 0, .int .u64 0]), (29, .int .i64 EE), (7, .int .i64 EE)]
          ⟨I.val 0, I.val 1, I.val 3, trivial⟩ rfl]
        have sW5 : W4.heap.size ≤ W5.heap.size := I.below.size
        replace ow3 := I.keep ow3.drawn (by repeat' (first | exact trivial | refine Off.v ?_ | refine Off.k ?_ | refine Off.b ?_ | refine Off.n ?_ | refine Off.p ?_ | refine Off.s ?_ ?_ | omega))
        replace ow4 := I.keep ow4.drawn (by repeat' (first | exact trivial | refine Off.v ?_ | refine Off.k ?_ | refine Off.b ?_ | refine Off.n ?_ | refine Off.p ?_ | refine Off.s ?_ ?_ | omega))
        replace ow8 := I.keep ow8.drawn (by repeat' (first | exact trivial | refine Off.v ?_ | refine Off.k ?_ | refine Off.b ?_ | refine Off.n ?_ | refine Off.p ?_ | refine Off.s ?_ ?_ | omega))
        replace ow9 := I.keep ow9.drawn (by repeat' (first | exact trivial | refine Off.v ?_ | refine Off.k ?_ | refine Off.b ?_ | refine Off.n ?_ | refine Off.p ?_ | refine Off.s ?_ ?_ | omega))
        replace ow10 := I.keep ow10.drawn (by repeat' (first | exact trivial | refine Off.v ?_ | refine Off.k ?_ | refine Off.b ?_ | refine Off.n ?_ | refine Off.p ?_ | refine Off.s ?_ ?_ | omega))
        replace ow6 := I.sto 2 rfl rfl
        have hW5 : Below w.heap.size w W5 := hW4.drew.trans I.below
        clear I
        simp only [List.foldl_cons, List.foldl_nil, List.setIfInBounds_toArray, List.set_cons_zero, List.set_cons_succ]
        obtain ⟨r6_, r6_1, r6_2⟩ := ow6.at_
        clear ow3 ow4 ow6 ow8 ow9 ow10
        go_wp2
        try simp only [setCell_drawn]
        refine bodyPost_ret (by first | (simp [results, Tryd.results26, go_sem, r6_]; done) | (simp [results, Tryd.results26, go_sem, r6_]; rfl)) rfl ⟨?_, hW5⟩
        refine congrArg Ending.returned ?_
        simp only [rkV, t1_.out, t2_.out, t3_.out]
        rfl
    · have t2_ := Lib.hid t2
      clear t2
      go_upto_region 1 with fail
      refine region_memo_f (B := W0.heap.size) (L := .val (.agg #[.int .u64 (L0 an), .int .u64 (L1 an), .int .u64 (L2 an), .int .u64 (L3 an), .int .u64 (L0 ad), .int .u64 (L1 ad), .int .u64 (L2 ad), .int .u64 (L3 ad)]) :: .val (.bool true) :: .val (.bool false) :: .val (.bool false) :: .val (.agg #[.int .u64 (L0 bn), .int .u64 (L1 bn), .int .u64 (L2 bn), .int .u64 (L3 bn), .int .u64 (L0 bd), .int .u64 (L1 bd), .int .u64 (L2 bd), .int .u64 (L3 bd)]) :: .val (.bool false) :: .val (.bool true) :: .val (.bool true) :: []) (by kernel_rfl) (Nat.le_refl _) ((by exact trivial))
        ⟨fun a w R => ld_R (R.slot 3 rfl) (R.keep ow3 trivial) rfl rfl rfl rfl rfl rfl rfl rfl, fun a w R => cl_t (enter_at Tryd.func10) (R.val 0) (Right_is han had t1_.out _), fun a w R => notb (R.val 1), fun a w R => mv (R.val 2), fun a w R => ld_R (R.slot 4 rfl) (R.keep ow4 trivial) rfl rfl rfl rfl rfl rfl rfl rfl, fun a w R => cl_t (enter_at Tryd.func10) (R.val 4) (Right_is hbn hbd t2_.out _), fun a w R => notb (R.val 5), fun a w R => pickn (R.val 3) (R.val 6), trivial⟩ (fun act_ W1 I => ?_)
      rw [I.act [(11, .agg #[.int .u64 (L0 an), .int .u64 (L1 an), .int .u64 (L2 an), .int .u64 (L3 an), .int .u64 (L0 ad), .int .u64 (L1 ad), .int .u64 (L2 ad), .int .u64 (L3 ad)]), (12, .bool true), (13, .bool false), (14, .bool false), (15, .agg #[.int .u64 (L0 bn), .int .u64 (L1 bn), .int .u64 (L2 bn), .int .u64 (L3 bn), .int .u64 (L0 bd), .int .u64 (L1 bd), .int .u64 (L2 bd), .int .u64 (L3 bd)]), (16, .bool false), (17, .bool true), (18, .bool true)]
        ⟨I.val 0, I.val 1, I.val 2, I.val 3, I.val 4, I.val 5, I.val 6, I.val 7, trivial⟩ rfl]
      have sW1 : W0.heap.size ≤ W1.heap.size := I.below.size
      replace ow3 := I.keep ow3 trivial
      replace ow4 := I.keep ow4 trivial
      replace ow6 := I.keep ow6 trivial
      have hW1 : Below w.heap.size w W1 := then_ hW0 I.below hW0.size
      clear I
      simp only [List.foldl_cons, List.foldl_nil, List.setIfInBounds_toArray, List.set_cons_zero, List.set_cons_succ]
      go_upto_region 2 with fail
      refine region_memo_f (B := w.heap.size) (L := .val (.agg #[.int .u64 0, .int .u64 0, .int .u64 0, .int .u64 0, .int .u64 0, .int .u64 0, .int .u64 0, .int .u64 0]) :: .sto (w.heap.size + 1 + 1) 26 #[.int .u64 0, .int .u64 0, .int .u64 0, .int .u64 0, .int .u64 0, .int .u64 0, .int .u64 0, .int .u64 0] :: .val (.int .i64 1) :: []) (by kernel_rfl) (hW1.size) (Olds.v (Olds.s (by omega) ow6.in_ (by repeat' (first | exact trivial | refine Off.v ?_ | refine Off.k ?_ | refine Off.b ?_ | refine Off.n ?_ | refine Off.p ?_ | refine Off.s ?_ ?_ | omega)) (Olds.v trivial)))
        ⟨fun a w R => bd0_R, fun a w R => so_R (R.slot 6 rfl) (R.own rfl ow6) rfl (R.val 0), fun a w R => asc, trivial⟩ (fun act_ W2 I => ?_)
      rw [I.act [(19, .agg #[.int .u64 0, .int .u64 0, .int .u64 0, .int .u64 0, .int .u64 0, .int .u64 0, .int .u64 0, .int .u64 0]), (7, .int .i64 1)]
        ⟨I.val 0, I.val 2, trivial⟩ rfl]
      have sW2 : W1.heap.size ≤ W2.heap.size := I.below.size
      replace ow3 := I.keep ow3 (by repeat' (first | exact trivial | refine Off.v ?_ | refine Off.k ?_ | refine Off.b ?_ | refine Off.n ?_ | refine Off.p ?_ | refine Off.s ?_ ?_ | omega))
      replace ow4 := I.keep ow4 (by repeat' (first | exact trivial | refine Off.v ?_ | refine Off.k ?_ | refine Off.b ?_ | refine Off.n ?_ | refine Off.p ?_ | refine Off.s ?_ ?_ | omega))
      replace ow6 := I.sto 1 rfl rfl
      have hW2 : Below w.heap.size w W2 := hW1.trans I.below
      clear I
      simp only [List.foldl_cons, List.foldl_nil, List.setIfInBounds_toArray, List.set_cons_zero, List.set_cons_succ]
      obtain ⟨r6_, r6_1, r6_2⟩ := ow6.at_
      clear ow3 ow4 ow6
      go_wp2
      try simp only [setCell_drawn]
      refine bodyPost_ret (by first | (simp [results, Tryd.results26, go_sem, r6_]; done) | (simp [results, Tryd.results26, go_sem, r6_]; rfl)) rfl ⟨?_, hW2⟩
      refine congrArg Ending.returned ?_
      simp only [rkV, t1_.out, t2_.out]
      rfl
  · have t1_ := Lib.hid t1
    clear t1
    go_upto_region 1 with fail
    refine region_memo_f (B := W0.heap.size) (L := .val (.agg #[.int .u64 (L0 an), .int .u64 (L1 an), .int .u64 (L2 an), .int .u64 (L3 an), .int .u64 (L0 ad), .int .u64 (L1 ad), .int .u64 (L2 ad), .int .u64 (L3 ad)]) :: .val (.bool false) :: .val (.bool true) :: .val (.bool true) :: .skip :: .skip :: .skip :: .val (.bool true) :: []) (by kernel_rfl) (Nat.le_refl _) ((by exact trivial))
      ⟨fun a w R => ld_R (R.slot 3 rfl) (R.keep ow3 trivial) rfl rfl rfl rfl rfl rfl rfl rfl, fun a w R => cl_t (enter_at Tryd.func10) (R.val 0) (Right_is han had t1_.out _), fun a w R => notb (R.val 1), fun a w R => mv (R.val 2), fun a w R => True.intro, fun a w R => True.intro, fun a w R => True.intro, fun a w R => picko (R.val 3) (R.goneS 6), trivial⟩ (fun act_ W1 I => ?_)
    rw [I.act [(11, .agg #[.int .u64 (L0 an), .int .u64 (L1 an), .int .u64 (L2 an), .int .u64 (L3 an), .int .u64 (L0 ad), .int .u64 (L1 ad), .int .u64 (L2 ad), .int .u64 (L3 ad)]), (12, .bool false), (13, .bool true), (14, .bool true), (15, undef), (16, undef), (17, undef), (18, .bool true)]
      ⟨I.val 0, I.val 1, I.val 2, I.val 3, I.gone 4, I.gone 5, I.gone 6, I.val 7, trivial⟩ rfl]
    have sW1 : W0.heap.size ≤ W1.heap.size := I.below.size
    replace ow3 := I.keep ow3 trivial
    replace ow4 := I.keep ow4 trivial
    replace ow6 := I.keep ow6 trivial
    have hW1 : Below w.heap.size w W1 := then_ hW0 I.below hW0.size
    clear I
    simp only [List.foldl_cons, List.foldl_nil, List.setIfInBounds_toArray, List.set_cons_zero, List.set_cons_succ]
    go_upto_region 2 with fail
    refine region_memo_f (B := w.heap.size) (L := .val (.agg #[.int .u64 0, .int .u64 0, .int .u64 0, .int .u64 0, .int .u64 0, .int .u64 0, .int .u64 0, .int .u64 0]) :: .sto (w.heap.size + 1 + 1) 26 #[.int .u64 0, .int .u64 0, .int .u64 0, .int .u64 0, .int .u64 0, .int .u64 0, .int .u64 0, .int .u64 0] :: .val (.int .i64 1) :: []) (by kernel_rfl) (hW1.size) (Olds.v (Olds.s (by omega) ow6.in_ (by repeat' (first | exact trivial | refine Off.v ?_ | refine Off.k ?_ | refine Off.b ?_ | refine Off.n ?_ | refine Off.p ?_ | refine Off.s ?_ ?_ | omega)) (Olds.v trivial)))
      ⟨fun a w R => bd0_R, fun a w R => so_R (R.slot 6 rfl) (R.own rfl ow6) rfl (R.val 0), fun a w R => asc, trivial⟩ (fun act_ W2 I => ?_)
    rw [I.act [(19, .agg #[.int .u64 0, .int .u64 0, .int .u64 0, .int .u64 0, .int .u64 0, .int .u64 0, .int .u64 0, .int .u64 0]), (7, .int .i64 1)]
      ⟨I.val 0, I.val 2, trivial⟩ rfl]
    have sW2 : W1.heap.size ≤ W2.heap.size := I.below.size
    replace ow3 := I.keep ow3 (by repeat' (first | exact trivial | refine Off.v ?_ | refine Off.k ?_ | refine Off.b ?_ | refine Off.n ?_ | refine Off.p ?_ | refine Off.s ?_ ?_ | omega))
    replace ow4 := I.keep ow4 (by repeat' (first | exact trivial | refine Off.v ?_ | refine Off.k ?_ | refine Off.b ?_ | refine Off.n ?_ | refine Off.p ?_ | refine Off.s ?_ ?_ | omega))
    replace ow6 := I.sto 1 rfl rfl
    have hW2 : Below w.heap.size w W2 := hW1.trans I.below
    clear I
    simp only [List.foldl_cons, List.foldl_nil, List.setIfInBounds_toArray, List.set_cons_zero, List.set_cons_succ]
    obtain ⟨r6_, r6_1, r6_2⟩ := ow6.at_
    clear ow3 ow4 ow6
    go_wp2
    try simp only [setCell_drawn]
    refine bodyPost_ret (by first | (simp [results, Tryd.results26, go_sem, r6_]; done) | (simp [results, Tryd.results26, go_sem, r6_]; rfl)) rfl ⟨?_, hW2⟩
    refine congrArg Ending.returned ?_
    simp only [rkV, t1_.out]
    rfl
set_option maxHeartbeats 16000000 in
set_option maxRecDepth 20000 in
theorem rk_Div {an ad bn bd : Int} (han : Fit an) (had : Fit ad) (hbn : Fit bn) (hbd : Fit bd) {N D EE : Int} (hN : Fit N) (hD : Fit D) {c0 c1 : Value} {w : World} (PF0 : ∀ W p, Below w.heap.size w W → Own W p 27 #[.int .i64 0] → w.heap.size ≤ p → Calls Tryd.prog 34 #[.func (.func 53) #[] #[.pointer (some ⟨p, 0, none⟩)], c0, c1] W fun e w' => e = .returned (.tuple #[.agg #[.int .u64 (L0 N), .int .u64 (L1 N), .int .u64 (L2 N), .int .u64 (L3 N)], .agg #[.int .u64 (L0 D), .int .u64 (L1 D), .int .u64 (L2 D), .int .u64 (L3 D)]]) ∧ But p W w' ∧ Own w' p 27 #[.int .i64 EE]) : Calls Tryd.prog 26 #[.agg #[.int .u64 (L0 an), .int .u64 (L1 an), .int .u64 (L2 an), .int .u64 (L3 an), .int .u64 (L0 ad), .int .u64 (L1 ad), .int .u64 (L2 ad), .int .u64 (L3 ad)], .agg #[.int .u64 (L0 bn), .int .u64 (L1 bn), .int .u64 (L2 bn), .int .u64 (L3 bn), .int .u64 (L0 bd), .int .u64 (L1 bd), .int .u64 (L2 bd), .int .u64 (L3 bd)], .func (.func 34) #[] #[c0, c1]] w fun e w' => e = .returned (rkV an ad bn bd N D EE) ∧ Below w.heap.size w w' := by
  have PF := Lib.hid PF0
  clear PF0
  go_enter Tryd.func26, Tryd.ntmps26
  go_upto_region 1 with fail
  go_name_world W0 hW0e
  have ow3 : Own W0 w.heap.size 26 #[.int .u64 (L0 an), .int .u64 (L1 an), .int .u64 (L2 an), .int .u64 (L3 an), .int .u64 (L0 ad), .int .u64 (L1 ad), .int .u64 (L2 ad), .int .u64 (L3 ad)] := hW0e ▸ (by repeat' (first | (with_reducible assumption) | (with_reducible refine Own.drawnN ?_ _) | (with_reducible refine Own.drawn ?_) | (with_reducible refine Own.made_at ?_; first | rfl | (simp; done) | omega | (simp; omega)) | (with_reducible refine Own.more ?_ _) | (with_reducible refine Own.apart ?_ ?_ _ _; rotate_left; first | omega | (simp; done) | (simp; omega)) | (refine Own.put ?_ _ _)))
  have ow4 : Own W0 (w.heap.size + 1) 26 #[.int .u64 (L0 bn), .int .u64 (L1 bn), .int .u64 (L2 bn), .int .u64 (L3 bn), .int .u64 (L0 bd), .int .u64 (L1 bd), .int .u64 (L2 bd), .int .u64 (L3 bd)] := hW0e ▸ (by repeat' (first | (with_reducible assumption) | (with_reducible refine Own.drawnN ?_ _) | (with_reducible refine Own.drawn ?_) | (with_reducible refine Own.made_at ?_; first | rfl | (simp; done) | omega | (simp; omega)) | (with_reducible refine Own.more ?_ _) | (with_reducible refine Own.apart ?_ ?_ _ _; rotate_left; first | omega | (simp; done) | (simp; omega)) | (refine Own.put ?_ _ _)))
  have ow6 : Own W0 (w.heap.size + 1 + 1) 26 #[.int .u64 0, .int .u64 0, .int .u64 0, .int .u64 0, .int .u64 0, .int .u64 0, .int .u64 0, .int .u64 0] := hW0e ▸ (by repeat' (first | (with_reducible assumption) | (with_reducible refine Own.drawnN ?_ _) | (with_reducible refine Own.drawn ?_) | (with_reducible refine Own.made_at ?_; first | rfl | (simp; done) | omega | (simp; omega)) | (with_reducible refine Own.more ?_ _) | (with_reducible refine Own.apart ?_ ?_ _ _; rotate_left; first | omega | (simp; done) | (simp; omega)) | (refine Own.put ?_ _ _)))
  have hW0 : Below w.heap.size w W0 := hW0e ▸ (by repeat' (first | (with_reducible exact Below.refl _ _) | (with_reducible assumption) | (with_reducible refine below_drewN ?_ _) | (with_reducible refine Below.drew ?_) | (with_reducible refine Below.alloc ?_ ?_ _) | (with_reducible refine Below.setCell ?_ ?_ _) | (with_reducible refine then_ ?_ (by with_reducible assumption) ?_) | (with_reducible exact Nat.le_refl _) | (with_reducible exact Nat.le_succ _) | (with_reducible exact Nat.le_succ_of_le (by with_reducible assumption)) | omega | (simp; done) | (simp; omega) | (exact Nat.le_succ _) | (exact Nat.le_succ_of_le (by with_reducible assumption))))
  clear hW0e
  have zown := ow6.in_
  rcases Bool.eq_false_or_eq_true (decide (Rgt an ad)) with t1 | t1
  · have t1_ := Lib.hid t1
    clear t1
    rcases Bool.eq_false_or_eq_true (decide (Rgt bn bd)) with t2 | t2
    · have t2_ := Lib.hid t2
      clear t2
      go_upto_region 1 with fail
      refine region_memo_f (B := W0.heap.size) (L := .val (.agg #[.int .u64 (L0 an), .int .u64 (L1 an), .int .u64 (L2 an), .int .u64 (L3 an), .int .u64 (L0 ad), .int .u64 (L1 ad), .int .u64 (L2 ad), .int .u64 (L3 ad)]) :: .val (.bool true) :: .val (.bool false) :: .val (.bool false) :: .val (.agg #[.int .u64 (L0 bn), .int .u64 (L1 bn), .int .u64 (L2 bn), .int .u64 (L3 bn), .int .u64 (L0 bd), .int .u64 (L1 bd), .int .u64 (L2 bd), .int .u64 (L3 bd)]) :: .val (.bool true) :: .val (.bool false) :: .val (.bool false) :: []) (by kernel_rfl) (Nat.le_refl _) ((by exact trivial))
        ⟨fun a w R => ld_R (R.slot 3 rfl) (R.keep ow3 trivial) rfl rfl rfl rfl rfl rfl rfl rfl, fun a w R => cl_t (enter_at Tryd.func10) (R.val 0) (Right_is han had t1_.out _), fun a w R => notb (R.val 1), fun a w R => mv (R.val 2), fun a w R => ld_R (R.slot 4 rfl) (R.keep ow4 trivial) rfl rfl rfl rfl rfl rfl rfl rfl, fun a w R => cl_t (enter_at Tryd.func10) (R.val 4) (Right_is hbn hbd t2_.out _), fun a w R => notb (R.val 5), fun a w R => pickn (R.val 3) (R.val 6), trivial⟩ (fun act_ W1 I => ?_)
      rw [I.act [(11, .agg #[.int .u64 (L0 an), .int .u64 (L1 an), .int .u64 (L2 an), .int .u64 (L3 an), .int .u64 (L0 ad), .int .u64 (L1 ad), .int .u64 (L2 ad), .int .u64 (L3 ad)]), (12, .bool true), (13, .bool false), (14, .bool false), (15, .agg #[.int .u64 (L0 bn), .int .u64 (L1 bn), .int .u64 (L2 bn), .int .u64 (L3 bn), .int .u64 (L0 bd), .int .u64 (L1 bd), .int .u64 (L2 bd), .int .u64 (L3 bd)]), (16, .bool true), (17, .bool false), (18, .bool false)]
        ⟨I.val 0, I.val 1, I.val 2, I.val 3, I.val 4, I.val 5, I.val 6, I.val 7, trivial⟩ rfl]
      have sW1 : W0.heap.size ≤ W1.heap.size := I.below.size
      replace ow3 := I.keep ow3 trivial
      replace ow4 := I.keep ow4 trivial
      replace ow6 := I.keep ow6 trivial
      have hW1 : Below w.heap.size w W1 := then_ hW0 I.below hW0.size
      clear I
      simp only [List.foldl_cons, List.foldl_nil, List.setIfInBounds_toArray, List.set_cons_zero, List.set_cons_succ]
      go_upto_region 3 with fail
      refine region_memo_f (B := W1.heap.size) (L := .blk 27 1 :: .put 8 27 #[.int .i64 0] :: []) (by kernel_rfl) (Nat.le_refl _) ((by exact trivial))
        ⟨fun a w R => al_E, fun a w R => sbk_E (R.dep 0) , trivial⟩ (fun act_ W2 I => ?_)
      obtain ⟨gb8, ew8, lw8, ow8⟩ := I.put 1 rfl rfl
      rw [I.act [(8, .pointer (some ⟨gb8, 0, none⟩))]
        ⟨ew8, trivial⟩ rfl]
      change W1.heap.size ≤ gb8 at lw8
      have sW2 : W1.heap.size ≤ W2.heap.size := I.below.size
      replace ow3 := I.keep ow3 trivial
      replace ow4 := I.keep ow4 trivial
      replace ow6 := I.keep ow6 trivial
      have hW2 : Below w.heap.size w W2 := then_ hW1 I.below hW1.size
      clear ew8
      clear I
      simp only [List.foldl_cons, List.foldl_nil, List.setIfInBounds_toArray, List.set_cons_zero, List.set_cons_succ]
      go_upto_region 4 with fail
      have z8 : w.heap.size ≤ gb8 := Nat.le_trans hW1.size lw8
      have y8 := ow8.in_
      go_upto_region 5 with (go_at_call 34; with_reducible refine (PF.out _ _ hW2 ow8 z8).mono ?_; rintro e wc ⟨rfl, bc, ofc⟩)
      go_name_world W3 hn
      have zc := bc.size
      have ow3_ : Own W3 w.heap.size 26 #[.int .u64 (L0 an), .int .u64 (L1 an), .int .u64 (L2 an), .int .u64 (L3 an), .int .u64 (L0 ad), .int .u64 (L1 ad), .int .u64 (L2 ad), .int .u64 (L3 ad)] := hn ▸ (((bc.own ow3 (by omega)).more _).more _)
      have ow4_ : Own W3 (w.heap.size + 1) 26 #[.int .u64 (L0 bn), .int .u64 (L1 bn), .int .u64 (L2 bn), .int .u64 (L3 bn), .int .u64 (L0 bd), .int .u64 (L1 bd), .int .u64 (L2 bd), .int .u64 (L3 bd)] := hn ▸ (((bc.own ow4 (by omega)).more _).more _)
      have ow6_ : Own W3 (w.heap.size + 1 + 1) 26 #[.int .u64 0, .int .u64 0, .int .u64 0, .int .u64 0, .int .u64 0, .int .u64 0, .int .u64 0, .int .u64 0] := hn ▸ (((bc.own ow6 (by omega)).more _).more _)
      have ow8_ : Own W3 gb8 27 #[.int .i64 EE] := hn ▸ ((ofc.more _).more _)
      have ow9 : Own W3 wc.heap.size 24 #[.int .u64 (L0 N), .int .u64 (L1 N), .int .u64 (L2 N), .int .u64 (L3 N)] := hn ▸ (by repeat' (first | (with_reducible assumption) | (with_reducible refine Own.drawnN ?_ _) | (with_reducible refine Own.drawn ?_) | (with_reducible refine Own.made_at ?_; first | rfl | (simp; done) | omega | (simp; omega)) | (with_reducible refine Own.more ?_ _) | (with_reducible refine Own.apart ?_ ?_ _ _; rotate_left; first | omega | (simp; done) | (simp; omega)) | (refine Own.put ?_ _ _)))
      have ow10 : Own W3 (wc.heap.size + 1) 24 #[.int .u64 (L0 D), .int .u64 (L1 D), .int .u64 (L2 D), .int .u64 (L3 D)] := hn ▸ (by repeat' (first | (with_reducible assumption) | (with_reducible refine Own.drawnN ?_ _) | (with_reducible refine Own.drawn ?_) | (with_reducible refine Own.made_at ?_; first | rfl | (simp; done) | omega | (simp; omega)) | (with_reducible refine Own.more ?_ _) | (with_reducible refine Own.apart ?_ ?_ _ _; rotate_left; first | omega | (simp; done) | (simp; omega)) | (refine Own.put ?_ _ _)))
      have hW3 : Below w.heap.size w W3 := hn ▸ (((hW2.trans (bc.below hW2.size z8)).alloc (Nat.le_trans hW2.size zc) _).alloc (by have := hW2.size; simp; omega) _)
      have sW3 : wc.heap.size + 1 < W3.heap.size := ow10.in_
      clear hn bc ofc ow3 ow4 ow6 ow8
      have ow3 := ow3_
      clear ow3_
      have ow4 := ow4_
      clear ow4_
      have ow6 := ow6_
      clear ow6_
      have ow8 := ow8_
      clear ow8_
      rcases Bool.eq_false_or_eq_true ((EE == 0)) with t3 | t3
      · have t3_ := Lib.hid t3
        clear t3
        go_upto_region 5 with fail
        refine region_memo_f (B := W3.heap.size) (L := .val (.int .i64 EE) :: .val (.bool false) :: []) (by kernel_rfl) (Nat.le_refl _) ((by exact trivial))
          ⟨fun a w R => ld_errno (R.slot 8 rfl) (R.keep ow8 trivial) rfl, fun a w R => c_neq_tk (R.val 0) (Tryd.underlying27) (by rw [t3_.out]; rfl), trivial⟩ (fun act_ W4 I => ?_)
        rw [I.act [(26, .int .i64 EE), (27, .bool false)]
          ⟨I.val 0, I.val 1, trivial⟩ rfl]
        have sW4 : W3.heap.size ≤ W4.heap.size := I.below.size
        replace ow3 := I.keep ow3 trivial
        replace ow4 := I.keep ow4 trivial
        replace ow6 := I.keep ow6 trivial
        replace ow8 := I.keep ow8 trivial
        replace ow9 := I.keep ow9 trivial
        replace ow10 := I.keep ow10 trivial
        have hW4 : Below w.heap.size w W4 := then_ hW3 I.below hW3.size
        clear I
        simp only [List.foldl_cons, List.foldl_nil, List.setIfInBounds_toArray, List.set_cons_zero, List.set_cons_succ]
        go_upto_region 7 with fail
        refine region_memo_f (B := w.heap.size) (L := .val (.agg #[.int .u64 (L0 N), .int .u64 (L1 N), .int .u64 (L2 N), .int .u64 (L3 N)]) :: .val (.agg #[.int .u64 (L0 D), .int .u64 (L1 D), .int .u64 (L2 D), .int .u64 (L3 D)]) :: .val (.tuple #[.agg #[.int .u64 (L0 (mkP N D)), .int .u64 (L1 (mkP N D)), .int .u64 (L2 (mkP N D)), .int .u64 (L3 (mkP N D)), .int .u64 (L0 (mkQ N D)), .int .u64 (L1 (mkQ N D)), .int .u64 (L2 (mkQ N D)), .int .u64 (L3 (mkQ N D))], .int .i64 (mkR N D)]) :: .val (.agg #[.int .u64 (L0 (mkP N D)), .int .u64 (L1 (mkP N D)), .int .u64 (L2 (mkP N D)), .int .u64 (L3 (mkP N D)), .int .u64 (L0 (mkQ N D)), .int .u64 (L1 (mkQ N D)), .int .u64 (L2 (mkQ N D)), .int .u64 (L3 (mkQ N D))]) :: .val (.int .i64 (mkR N D)) :: .sto (w.heap.size + 1 + 1) 26 #[.int .u64 (L0 (mkP N D)), .int .u64 (L1 (mkP N D)), .int .u64 (L2 (mkP N D)), .int .u64 (L3 (mkP N D)), .int .u64 (L0 (mkQ N D)), .int .u64 (L1 (mkQ N D)), .int .u64 (L2 (mkQ N D)), .int .u64 (L3 (mkQ N D))] :: .val (.int .i64 (mkR N D)) :: []) (by kernel_rfl) (hW4.size) (Olds.v (Olds.v (Olds.v (Olds.v (Olds.v (Olds.s (by omega) ow6.in_ (by repeat' (first | exact trivial | refine Off.v ?_ | refine Off.k ?_ | refine Off.b ?_ | refine Off.n ?_ | refine Off.p ?_ | refine Off.s ?_ ?_ | omega)) (Olds.v trivial)))))))
          ⟨fun a w R => ld_W (R.slot 9 rfl) (R.keep ow9 (by repeat' (first | exact trivial | refine Off.v ?_ | refine Off.k ?_ | refine Off.b ?_ | refine Off.n ?_ | refine Off.p ?_ | refine Off.s ?_ ?_ | omega))) rfl rfl rfl rfl, fun a w R => ld_W (R.slot 10 rfl) (R.keep ow10 (by repeat' (first | exact trivial | refine Off.v ?_ | refine Off.k ?_ | refine Off.b ?_ | refine Off.n ?_ | refine Off.p ?_ | refine Off.s ?_ ?_ | omega))) rfl rfl rfl rfl, fun a w R => cl_tt (enter_at Tryd.func29) (R.val 0) (R.val 1) (Make_mk hN hD _), fun a w R => ex0 (R.val 2), fun a w R => ex1 (R.val 2), fun a w R => so_R (R.slot 6 rfl) (R.own rfl ow6) rfl (R.val 3), fun a w R => asg (R.val 4), trivial⟩ (fun act_ W5 I => ?_)
        rw [I.act [(30, .agg #[.int .u64 (L0 N), .int .u64 (L1 N), .int .u64 (L2 N), .int .u64 (L3 N)]), (31, .agg #[.int .u64 (L0 D), .int .u64 (L1 D), .int .u64 (L2 D), .int .u64 (L3 D)]), (32, .tuple #[.agg #[.int .u64 (L0 (mkP N D)), .int .u64 (L1 (mkP N D)), .int .u64 (L2 (mkP N D)), .int .u64 (L3 (mkP N D)), .int .u64 (L0 (mkQ N D)), .int .u64 (L1 (mkQ N D)), .int .u64 (L2 (mkQ N D)), .int .u64 (L3 (mkQ N D))], .int .i64 (mkR N D)]), (33, .agg #[.int .u64 (L0 (mkP N D)), .int .u64 (L1 (mkP N D)), .int .u64 (L2 (mkP N D)), .int .u64 (L3 (mkP N D)), .int .u64 (L0 (mkQ N D)), .int .u64 (L1 (mkQ N D)), .int .u64 (L2 (mkQ N D)), .int .u64 (L3 (mkQ N D))]), (34, .int .i64 (mkR N D)), (7, .int .i64 (mkR N D))]
          ⟨I.val 0, I.val 1, I.val 2, I.val 3, I.val 4, I.val 6, trivial⟩ rfl]
        have sW5 : W4.heap.size ≤ W5.heap.size := I.below.size
        replace ow3 := I.keep ow3 (by repeat' (first | exact trivial | refine Off.v ?_ | refine Off.k ?_ | refine Off.b ?_ | refine Off.n ?_ | refine Off.p ?_ | refine Off.s ?_ ?_ | omega))
        replace ow4 := I.keep ow4 (by repeat' (first | exact trivial | refine Off.v ?_ | refine Off.k ?_ | refine Off.b ?_ | refine Off.n ?_ | refine Off.p ?_ | refine Off.s ?_ ?_ | omega))
        replace ow8 := I.keep ow8 (by repeat' (first | exact trivial | refine Off.v ?_ | refine Off.k ?_ | refine Off.b ?_ | refine Off.n ?_ | refine Off.p ?_ | refine Off.s ?_ ?_ | omega))
        replace ow9 := I.keep ow9 (by repeat' (first | exact trivial | refine Off.v ?_ | refine Off.k ?_ | refine Off.b ?_ | refine Off.n ?_ | refine Off.p ?_ | refine Off.s ?_ ?_ | omega))
        replace ow10 := I.keep ow10 (by repeat' (first | exact trivial | refine Off.v ?_ | refine Off.k ?_ | refine Off.b ?_ | refine Off.n ?_ | refine Off.p ?_ | refine Off.s ?_ ?_ | omega))
        replace ow6 := I.sto 5 rfl rfl
        have hW5 : Below w.heap.size w W5 := hW4.trans I.below
        clear I
        simp only [List.foldl_cons, List.foldl_nil, List.setIfInBounds_toArray, List.set_cons_zero, List.set_cons_succ]
        obtain ⟨r6_, r6_1, r6_2⟩ := ow6.at_
        clear ow3 ow4 ow6 ow8 ow9 ow10
        go_wp2
        try simp only [setCell_drawn]
        refine bodyPost_ret (by first | (simp [results, Tryd.results26, go_sem, r6_]; done) | (simp [results, Tryd.results26, go_sem, r6_]; rfl)) rfl ⟨?_, hW5⟩
        refine congrArg Ending.returned ?_
        simp only [rkV, t1_.out, t2_.out, t3_.out]
        rfl
      · have t3_ := Lib.hid t3
        clear t3
        go_upto_region 5 with fail
        refine region_memo_f (B := W3.heap.size) (L := .val (.int .i64 EE) :: .val (.bool true) :: []) (by kernel_rfl) (Nat.le_refl _) ((by exact trivial))
          ⟨fun a w R => ld_errno (R.slot 8 rfl) (R.keep ow8 trivial) rfl, fun a w R => c_neq_tk (R.val 0) (Tryd.underlying27) (by rw [t3_.out]; rfl), trivial⟩ (fun act_ W4 I => ?_)
        rw [I.act [(26, .int .i64 EE), (27, .bool true)]
          ⟨I.val 0, I.val 1, trivial⟩ rfl]
        have sW4 : W3.heap.size ≤ W4.heap.size := I.below.size
        replace ow3 := I.keep ow3 trivial
        replace ow4 := I.keep ow4 trivial
        replace ow6 := I.keep ow6 trivial
        replace ow8 := I.keep ow8 trivial
        replace ow9 := I.keep ow9 trivial
        replace ow10 := I.keep ow10 trivial
        have hW4 : Below w.heap.size w W4 := then_ hW3 I.below hW3.size
        clear I
        simp only [List.foldl_cons, List.foldl_nil, List.setIfInBounds_toArray, List.set_cons_zero, List.set_cons_succ]
        go_upto_region 6 with fail
        refine region_memo (B := w.heap.size) (L := .val (.agg #[.int .u64 0, .int .u64 0, .int .u64 0, .int .u64 0, .int .u64 0, .int .u64 0, .int .u64 0, .int .u64 0]) :: .val (.int .i64 EE) :: .sto (w.heap.size + 1 + 1) 26 #[.int .u64 0, .int .u64 0, .int .u64 0, .int .u64 0, .int .u64 0, .int .u64 0, .int .u64 0, .int .u64 0] :: .val (.int .i64 EE) :: []) (by kernel_rfl) (by kernel_rfl) (hW4.size) (Olds.v (Olds.v (Olds.s (by omega) ow6.drawn.in_ (by repeat' (first | exact trivial | refine Off.v ?_ | refine Off.k ?_ | refine Off.b ?_ | refine Off.n ?_ | refine Off.p ?_ | refine Off.s ?_ ?_ | omega)) (Olds.v trivial))))
          ⟨fun a w R => bd0_R, fun a w R => ld_errno (R.slot 8 rfl) (R.keep ow8.drawn (by repeat' (first | exact trivial | refine Off.v ?_ | refine Off.k ?_ | refine Off.b ?_ | refine Off.n ?_ | refine Off.p ?_ | refine Off.s ?_ ?_ | omega))) rfl, fun a w R => so_R (R.slot 6 rfl) (R.own rfl ow6.drawn) rfl (R.val 0), fun a w R => asg (R.val 1), trivial⟩ (fun act_ W5 I => ?_)
        rw [I.act [(28, .agg #[.int .u64 0, .int .u64 0, .int .u64 0, .int .u64 0, .int .u64 0, .int .u64 0, .int .u64 0, .int .u64 0]), (29, .int .i64 EE), (7, .int .i64 EE)]
          ⟨I.val 0, I.val 1, I.val 3, trivial⟩ rfl]
        have sW5 : W4.heap.size ≤ W5.heap.size := I.below.size
        replace ow3 := I.keep ow3.drawn (by repeat' (first | exact trivial | refine Off.v ?_ | refine Off.k ?_ | refine Off.b ?_ | refine Off.n ?_ | refine Off.p ?_ | refine Off.s ?_ ?_ | omega))
        replace ow4 := I.keep ow4.drawn (by repeat' (first | exact trivial | refine Off.v ?_ | refine Off.k ?_ | refine Off.b ?_ | refine Off.n ?_ | refine Off.p ?_ | refine Off.s ?_ ?_ | omega))
        replace ow8 := I.keep ow8.drawn (by repeat' (first | exact trivial | refine Off.v ?_ | refine Off.k ?_ | refine Off.b ?_ | refine Off.n ?_ | refine Off.p ?_ | refine Off.s ?_ ?_ | omega))
        replace ow9 := I.keep ow9.drawn (by repeat' (first | exact trivial | refine Off.v ?_ | refine Off.k ?_ | refine Off.b ?_ | refine Off.n ?_ | refine Off.p ?_ | refine Off.s ?_ ?_ | omega))
        replace ow10 := I.keep ow10.drawn (by repeat' (first | exact trivial | refine Off.v ?_ | refine Off.k ?_ | refine Off.b ?_ | refine Off.n ?_ | refine Off.p ?_ | refine Off.s ?_ ?_ | omega))
        replace ow6 := I.sto 2 rfl rfl
        have hW5 : Below w.heap.size w W5 := hW4.drew.trans I.below
        clear I
        simp only [List.foldl_cons, List.foldl_nil, List.setIfInBounds_toArray, List.set_cons_zero, List.set_cons_succ]
        obtain ⟨r6_, r6_1, r6_2⟩ := ow6.at_
        clear ow3 ow4 ow6 ow8 ow9 ow10
        go_wp2
        try simp only [setCell_drawn]
        refine bodyPost_ret (by first | (simp [results, Tryd.results26, go_sem, r6_]; done) | (simp [results, Tryd.results26, go_sem, r6_]; rfl)) rfl ⟨?_, hW5⟩
        refine congrArg Ending.returned ?_
        simp only [rkV, t1_.out, t2_.out, t3_.out]
        rfl
    · have t2_ := Lib.hid t2
      clear t2
      go_upto_region 1 with fail
      refine region_memo_f (B := W0.heap.size) (L := .val (.agg #[.int .u64 (L0 an), .int .u64 (L1 an), .int .u64 (L2 an), .int .u64 (L3 an), .int .u64 (L0 ad), .int .u64 (L1 ad), .int .u64 (L2 ad), .int .u64 (L3 ad)]) :: .val (.bool true) :: .val (.bool false) :: .val (.bool false) :: .val (.agg #[.int .u64 (L0 bn), .int .u64 (L1 bn), .int .u64 (L2 bn), .int .u64 (L3 bn), .int .u64 (L0 bd), .int .u64 (L1 bd), .int .u64 (L2 bd), .int .u64 (L3 bd)]) :: .val (.bool false) :: .val (.bool true) :: .val (.bool true) :: []) (by kernel_rfl) (Nat.le_refl _) ((by exact trivial))
        ⟨fun a w R => ld_R (R.slot 3 rfl) (R.keep ow3 trivial) rfl rfl rfl rfl rfl rfl rfl rfl, fun a w R => cl_t (enter_at Tryd.func10) (R.val 0) (Right_is han had t1_.out _), fun a w R => notb (R.val 1), fun a w R => mv (R.val 2), fun a w R => ld_R (R.slot 4 rfl) (R.keep ow4 trivial) rfl rfl rfl rfl rfl rfl rfl rfl, fun a w R => cl_t (enter_at Tryd.func10) (R.val 4) (Right_is hbn hbd t2_.out _), fun a w R => notb (R.val 5), fun a w R => pickn (R.val 3) (R.val 6), trivial⟩ (fun act_ W1 I => ?_)
      rw [I.act [(11, .agg #[.int .u64 (L0 an), .int .u64 (L1 an), .int .u64 (L2 an), .int .u64 (L3 an), .int .u64 (L0 ad), .int .u64 (L1 ad), .int .u64 (L2 ad), .int .u64 (L3 ad)]), (12, .bool true), (13, .bool false), (14, .bool false), (15, .agg #[.int .u64 (L0 bn), .int .u64 (L1 bn), .int .u64 (L2 bn), .int .u64 (L3 bn), .int .u64 (L0 bd), .int .u64 (L1 bd), .int .u64 (L2 bd), .int .u64 (L3 bd)]), (16, .bool false), (17, .bool true), (18, .bool true)]
        ⟨I.val 0, I.val 1, I.val 2, I.val 3, I.val 4, I.val 5, I.val 6, I.val 7, trivial⟩ rfl]
      have sW1 : W0.heap.size ≤ W1.heap.size := I.below.size
      replace ow3 := I.keep ow3 trivial
      replace ow4 := I.keep ow4 trivial
      replace ow6 := I.keep ow6 trivial
      have hW1 : Below w.heap.size w W1 := then_ hW0 I.below hW0.size
      clear I
      simp only [List.foldl_cons, List.foldl_nil, List.setIfInBounds_toArray, List.set_cons_zero, List.set_cons_succ]
      go_upto_region 2 with fail
      refine region_memo_f (B := w.heap.size) (L := .val (.agg #[.int .u64 0, .int .u64 0, .int .u64 0, .int .u64 0, .int .u64 0, .int .u64 0, .int .u64 0, .int .u64 0]) :: .sto (w.heap.size + 1 + 1) 26 #[.int .u64 0, .int .u64 0, .int .u64 0, .int .u64 0, .int .u64 0, .int .u64 0, .int .u64 0, .int .u64 0] :: .val (.int .i64 1) :: []) (by kernel_rfl) (hW1.size) (Olds.v (Olds.s (by omega) ow6.in_ (by repeat' (first | exact trivial | refine Off.v ?_ | refine Off.k ?_ | refine Off.b ?_ | refine Off.n ?_ | refine Off.p ?_ | refine Off.s ?_ ?_ | omega)) (Olds.v trivial)))
        ⟨fun a w R => bd0_R, fun a w R => so_R (R.slot 6 rfl) (R.own rfl ow6) rfl (R.val 0), fun a w R => asc, trivial⟩ (fun act_ W2 I => ?_)
      rw [I.act [(19, .agg #[.int .u64 0, .int .u64 0, .int .u64 0, .int .u64 0, .int .u64 0, .int .u64 0, .int .u64 0, .int .u64 0]), (7, .int .i64 1)]
        ⟨I.val 0, I.val 2, trivial⟩ rfl]
      have sW2 : W1.heap.size ≤ W2.heap.size := I.below.size
      replace ow3 := I.keep ow3 (by repeat' (first | exact trivial | refine Off.v ?_ | refine Off.k ?_ | refine Off.b ?_ | refine Off.n ?_ | refine Off.p ?_ | refine Off.s ?_ ?_ | omega))
      replace ow4 := I.keep ow4 (by repeat' (first | exact trivial | refine Off.v ?_ | refine Off.k ?_ | refine Off.b ?_ | refine Off.n ?_ | refine Off.p ?_ | refine Off.s ?_ ?_ | omega))
      replace ow6 := I.sto 1 rfl rfl
      have hW2 : Below w.heap.size w W2 := hW1.trans I.below
      clear I
      simp only [List.foldl_cons, List.foldl_nil, List.setIfInBounds_toArray, List.set_cons_zero, List.set_cons_succ]
      obtain ⟨r6_, r6_1, r6_2⟩ := ow6.at_
      clear ow3 ow4 ow6
      go_wp2
      try simp only [setCell_drawn]
      refine bodyPost_ret (by first | (simp [results, Tryd.results26, go_sem, r6_]; done) | (simp [results, Tryd.results26, go_sem, r6_]; rfl)) rfl ⟨?_, hW2⟩
      refine congrArg Ending.returned ?_
      simp only [rkV, t1_.out, t2_.out]
      rfl
  · have t1_ := Lib.hid t1
    clear t1
    go_upto_region 1 with fail
    refine region_memo_f (B := W0.heap.size) (L := .val (.agg #[.int .u64 (L0 an), .int .u64 (L1 an), .int .u64 (L2 an), .int .u64 (L3 an), .int .u64 (L0 ad), .int .u64 (L1 ad), .int .u64 (L2 ad), .int .u64 (L3 ad)]) :: .val (.bool false) :: .val (.bool true) :: .val (.bool true) :: .skip :: .skip :: .skip :: .val (.bool true) :: []) (by kernel_rfl) (Nat.le_refl _) ((by exact trivial))
      ⟨fun a w R => ld_R (R.slot 3 rfl) (R.keep ow3 trivial) rfl rfl rfl rfl rfl rfl rfl rfl, fun a w R => cl_t (enter_at Tryd.func10) (R.val 0) (Right_is han had t1_.out _), fun a w R => notb (R.val 1), fun a w R => mv (R.val 2), fun a w R => True.intro, fun a w R => True.intro, fun a w R => True.intro, fun a w R => picko (R.val 3) (R.goneS 6), trivial⟩ (fun act_ W1 I => ?_)
    rw [I.act [(11, .agg #[.int .u64 (L0 an), .int .u64 (L1 an), .int .u64 (L2 an), .int .u64 (L3 an), .int .u64 (L0 ad), .int .u64 (L1 ad), .int .u64 (L2 ad), .int .u64 (L3 ad)]), (12, .bool false), (13, .bool true), (14, .bool true), (15, undef), (16, undef), (17, undef), (18, .bool true)]
      ⟨I.val 0, I.val 1, I.val 2, I.val 3, I.gone 4, I.gone 5, I.gone 6, I.val 7, trivial⟩ rfl]
    have sW1 : W0.heap.size ≤ W1.heap.size := I.below.size
    replace ow3 := I.keep ow3 trivial
    replace ow4 := I.keep ow4 trivial
    replace ow6 := I.keep ow6 trivial
    have hW1 : Below w.heap.size w W1 := then_ hW0 I.below hW0.size
    clear I
    simp only [List.foldl_cons, List.foldl_nil, List.setIfInBounds_toArray, List.set_cons_zero, List.set_cons_succ]
    go_upto_region 2 with fail
    refine region_memo_f (B := w.heap.size) (L := .val (.agg #[.int .u64 0, .int .u64 0, .int .u64 0, .int .u64 0, .int .u64 0, .int .u64 0, .int .u64 0, .int .u64 0]) :: .sto (w.heap.size + 1 + 1) 26 #[.int .u64 0, .int .u64 0, .int .u64 0, .int .u64 0, .int .u64 0, .int .u64 0, .int .u64 0, .int .u64 0] :: .val (.int .i64 1) :: []) (by kernel_rfl) (hW1.size) (Olds.v (Olds.s (by omega) ow6.in_ (by repeat' (first | exact trivial | refine Off.v ?_ | refine Off.k ?_ | refine Off.b ?_ | refine Off.n ?_ | refine Off.p ?_ | refine Off.s ?_ ?_ | omega)) (Olds.v trivial)))
      ⟨fun a w R => bd0_R, fun a w R => so_R (R.slot 6 rfl) (R.own rfl ow6) rfl (R.val 0), fun a w R => asc, trivial⟩ (fun act_ W2 I => ?_)
    rw [I.act [(19, .agg #[.int .u64 0, .int .u64 0, .int .u64 0, .int .u64 0, .int .u64 0, .int .u64 0, .int .u64 0, .int .u64 0]), (7, .int .i64 1)]
      ⟨I.val 0, I.val 2, trivial⟩ rfl]
    have sW2 : W1.heap.size ≤ W2.heap.size := I.below.size
    replace ow3 := I.keep ow3 (by repeat' (first | exact trivial | refine Off.v ?_ | refine Off.k ?_ | refine Off.b ?_ | refine Off.n ?_ | refine Off.p ?_ | refine Off.s ?_ ?_ | omega))
    replace ow4 := I.keep ow4 (by repeat' (first | exact trivial | refine Off.v ?_ | refine Off.k ?_ | refine Off.b ?_ | refine Off.n ?_ | refine Off.p ?_ | refine Off.s ?_ ?_ | omega))
    replace ow6 := I.sto 1 rfl rfl
    have hW2 : Below w.heap.size w W2 := hW1.trans I.below
    clear I
    simp only [List.foldl_cons, List.foldl_nil, List.setIfInBounds_toArray, List.set_cons_zero, List.set_cons_succ]
    obtain ⟨r6_, r6_1, r6_2⟩ := ow6.at_
    clear ow3 ow4 ow6
    go_wp2
    try simp only [setCell_drawn]
    refine bodyPost_ret (by first | (simp [results, Tryd.results26, go_sem, r6_]; done) | (simp [results, Tryd.results26, go_sem, r6_]; rfl)) rfl ⟨?_, hW2⟩
    refine congrArg Ending.returned ?_
    simp only [rkV, t1_.out]
    rfl
end Go.Proofs.YtigcbgehnlilaaaDoor
