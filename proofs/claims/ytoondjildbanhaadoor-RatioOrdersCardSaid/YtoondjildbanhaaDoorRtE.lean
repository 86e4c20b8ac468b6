/- merged: total, Add, Sub, Mul, Div of ratio in general: they answer what reckon answers; written by auto_reckon2.py. Conditions: those that each theorem names. Add, Sub, Mul, Div of ratio, of any two fractions: what they answer, or which error. Conditions: that the four numbers fit. The mathematics of the order of fractions as the law of layer 4 asks it. It speaks of no function. Equality of fractions; written by auto_orders.py. Condition: that the numbers fit. -/
import Derived.Test.YtoondjildbanhaaDoorRatI
import Derived.Laws.StructEq
section
namespace Go.Proofs.YtoondjildbanhaaDoor
open Go.ChangeShapes Go.WideShapes Go.ChangeAt Go.RowKit
set_option linter.unusedVariables false
set_option linter.unusedSimpArgs false
set_option maxHeartbeats 16000000 in
set_option maxRecDepth 20000 in
theorem tot_Add {an ad bn bd p q er : Int} {w : World} (HK0 : ∀ (W : World) (ph pa pb : Nat), Below w.heap.size w W → Own W ph 80 #[.func (.func 29) #[] #[]] → Own W pa 26 #[.int .u64 (L0 an), .int .u64 (L1 an), .int .u64 (L2 an), .int .u64 (L3 an), .int .u64 (L0 ad), .int .u64 (L1 ad), .int .u64 (L2 ad), .int .u64 (L3 ad)] → Own W pb 26 #[.int .u64 (L0 bn), .int .u64 (L1 bn), .int .u64 (L2 bn), .int .u64 (L3 bn), .int .u64 (L0 bd), .int .u64 (L1 bd), .int .u64 (L2 bd), .int .u64 (L3 bd)] → Calls Tryd.prog 30 #[.agg #[.int .u64 (L0 an), .int .u64 (L1 an), .int .u64 (L2 an), .int .u64 (L3 an), .int .u64 (L0 ad), .int .u64 (L1 ad), .int .u64 (L2 ad), .int .u64 (L3 ad)], .agg #[.int .u64 (L0 bn), .int .u64 (L1 bn), .int .u64 (L2 bn), .int .u64 (L3 bn), .int .u64 (L0 bd), .int .u64 (L1 bd), .int .u64 (L2 bd), .int .u64 (L3 bd)], .func (.func 54) #[] #[.pointer (some ⟨ph, 0, none⟩), .pointer (some ⟨pa, 0, none⟩), .pointer (some ⟨pb, 0, none⟩)]] W fun e w' => e = .returned (.tuple #[.agg #[.int .u64 (L0 p), .int .u64 (L1 p), .int .u64 (L2 p), .int .u64 (L3 p), .int .u64 (L0 q), .int .u64 (L1 q), .int .u64 (L2 q), .int .u64 (L3 q)], .int .i64 er]) ∧ Below W.heap.size W w') : Calls Tryd.prog 28 #[.agg #[.int .u64 (L0 an), .int .u64 (L1 an), .int .u64 (L2 an), .int .u64 (L3 an), .int .u64 (L0 ad), .int .u64 (L1 ad), .int .u64 (L2 ad), .int .u64 (L3 ad)], .agg #[.int .u64 (L0 bn), .int .u64 (L1 bn), .int .u64 (L2 bn), .int .u64 (L3 bn), .int .u64 (L0 bd), .int .u64 (L1 bd), .int .u64 (L2 bd), .int .u64 (L3 bd)], .func (.func 29) #[] #[]] w fun e w' => e = .returned (.tuple #[.agg #[.int .u64 (L0 p), .int .u64 (L1 p), .int .u64 (L2 p), .int .u64 (L3 p), .int .u64 (L0 q), .int .u64 (L1 q), .int .u64 (L2 q), .int .u64 (L3 q)], .int .i64 er]) ∧ Below w.heap.size w w' := by
  have HK := Lib.hid HK0
  clear HK0
  go_enter Tryd.func28, Tryd.ntmps28
  go_upto_region 1 with fail
  go_name_world W0 hW0e
  have ow3 : Own W0 w.heap.size 26 #[.int .u64 (L0 an), .int .u64 (L1 an), .int .u64 (L2 an), .int .u64 (L3 an), .int .u64 (L0 ad), .int .u64 (L1 ad), .int .u64 (L2 ad), .int .u64 (L3 ad)] := hW0e ▸ (by repeat' (first | (with_reducible assumption) | (with_reducible refine Own.drawnN ?_ _) | (with_reducible refine Own.drawn ?_) | (with_reducible refine Own.made_at ?_; first | rfl | (simp; done) | omega | (simp; omega)) | (with_reducible refine Own.more ?_ _) | (with_reducible refine Own.apart ?_ ?_ _ _; rotate_left; first | omega | (simp; done) | (simp; omega)) | (refine Own.put ?_ _ _)))
  have ow4 : Own W0 (w.heap.size + 1) 26 #[.int .u64 (L0 bn), .int .u64 (L1 bn), .int .u64 (L2 bn), .int .u64 (L3 bn), .int .u64 (L0 bd), .int .u64 (L1 bd), .int .u64 (L2 bd), .int .u64 (L3 bd)] := hW0e ▸ (by repeat' (first | (with_reducible assumption) | (with_reducible refine Own.drawnN ?_ _) | (with_reducible refine Own.drawn ?_) | (with_reducible refine Own.made_at ?_; first | rfl | (simp; done) | omega | (simp; omega)) | (with_reducible refine Own.more ?_ _) | (with_reducible refine Own.apart ?_ ?_ _ _; rotate_left; first | omega | (simp; done) | (simp; omega)) | (refine Own.put ?_ _ _)))
  have ow5 : Own W0 (w.heap.size + 1 + 1) 80 #[.func (.func 29) #[] #[]] := hW0e ▸ (by repeat' (first | (with_reducible assumption) | (with_reducible refine Own.drawnN ?_ _) | (with_reducible refine Own.drawn ?_) | (with_reducible refine Own.made_at ?_; first | rfl | (simp; done) | omega | (simp; omega)) | (with_reducible refine Own.more ?_ _) | (with_reducible refine Own.apart ?_ ?_ _ _; rotate_left; first | omega | (simp; done) | (simp; omega)) | (refine Own.put ?_ _ _)))
  have ow6 : Own W0 (w.heap.size + 1 + 1 + 1) 26 #[.int .u64 0, .int .u64 0, .int .u64 0, .int .u64 0, .int .u64 0, .int .u64 0, .int .u64 0, .int .u64 0] := hW0e ▸ (by repeat' (first | (with_reducible assumption) | (with_reducible refine Own.drawnN ?_ _) | (with_reducible refine Own.drawn ?_) | (with_reducible refine Own.made_at ?_; first | rfl | (simp; done) | omega | (simp; omega)) | (with_reducible refine Own.more ?_ _) | (with_reducible refine Own.apart ?_ ?_ _ _; rotate_left; first | omega | (simp; done) | (simp; omega)) | (refine Own.put ?_ _ _)))
  have hW0 : Below w.heap.size w W0 := hW0e ▸ (by repeat' (first | (with_reducible exact Below.refl _ _) | (with_reducible assumption) | (with_reducible refine below_drewN ?_ _) | (with_reducible refine Below.drew ?_) | (with_reducible refine Below.alloc ?_ ?_ _) | (with_reducible refine Below.setCell ?_ ?_ _) | (with_reducible refine then_ ?_ (by with_reducible assumption) ?_) | (with_reducible exact Nat.le_refl _) | (with_reducible exact Nat.le_succ _) | (with_reducible exact Nat.le_succ_of_le (by with_reducible assumption)) | omega | (simp; done) | (simp; omega) | (exact Nat.le_succ _) | (exact Nat.le_succ_of_le (by with_reducible assumption))))
  clear hW0e
  have zown := ow6.in_
  go_upto_region 1 with fail
  refine region_memo_f (B := w.heap.size) (L := .val (.agg #[.int .u64 (L0 an), .int .u64 (L1 an), .int .u64 (L2 an), .int .u64 (L3 an), .int .u64 (L0 ad), .int .u64 (L1 ad), .int .u64 (L2 ad), .int .u64 (L3 ad)]) :: .val (.agg #[.int .u64 (L0 bn), .int .u64 (L1 bn), .int .u64 (L2 bn), .int .u64 (L3 bn), .int .u64 (L0 bd), .int .u64 (L1 bd), .int .u64 (L2 bd), .int .u64 (L3 bd)]) :: .val (.func (.func 54) #[] #[.pointer (some ⟨(w.heap.size + 1 + 1), 0, none⟩), .pointer (some ⟨w.heap.size, 0, none⟩), .pointer (some ⟨(w.heap.size + 1), 0, none⟩)]) :: .val (.tuple #[.agg #[.int .u64 (L0 p), .int .u64 (L1 p), .int .u64 (L2 p), .int .u64 (L3 p), .int .u64 (L0 q), .int .u64 (L1 q), .int .u64 (L2 q), .int .u64 (L3 q)], .int .i64 er]) :: .val (.agg #[.int .u64 (L0 p), .int .u64 (L1 p), .int .u64 (L2 p), .int .u64 (L3 p), .int .u64 (L0 q), .int .u64 (L1 q), .int .u64 (L2 q), .int .u64 (L3 q)]) :: .val (.int .i64 er) :: .sto (w.heap.size + 1 + 1 + 1) 26 #[.int .u64 (L0 p), .int .u64 (L1 p), .int .u64 (L2 p), .int .u64 (L3 p), .int .u64 (L0 q), .int .u64 (L1 q), .int .u64 (L2 q), .int .u64 (L3 q)] :: .val (.int .i64 er) :: []) (by kernel_rfl) (hW0.size) (Olds.v (Olds.v (Olds.v (Olds.v (Olds.v (Olds.v (Olds.s (by omega) ow6.in_ (by repeat' (first | exact trivial | refine Off.v ?_ | refine Off.k ?_ | refine Off.b ?_ | refine Off.n ?_ | refine Off.p ?_ | refine Off.s ?_ ?_ | omega)) (Olds.v trivial))))))))
    ⟨fun a w R => ld_R (R.slot 3 rfl) (R.keep ow3 (by repeat' (first | exact trivial | refine Off.v ?_ | refine Off.k ?_ | refine Off.b ?_ | refine Off.n ?_ | refine Off.p ?_ | refine Off.s ?_ ?_ | omega))) rfl rfl rfl rfl rfl rfl rfl rfl, fun a w R => ld_R (R.slot 4 rfl) (R.keep ow4 (by repeat' (first | exact trivial | refine Off.v ?_ | refine Off.k ?_ | refine Off.b ?_ | refine Off.n ?_ | refine Off.p ?_ | refine Off.s ?_ ?_ | omega))) rfl rfl rfl rfl rfl rfl rfl rfl, fun a w R => mf3 (R.slot 5 rfl) (R.slot 3 rfl) (R.slot 4 rfl), fun a w R => cl_ttt (enter_at Tryd.func30) (R.val 0) (R.val 1) (R.val 2) (HK.out _ _ _ _ (hW0.trans R.below) (R.keep ow5 (by repeat' (first | exact trivial | refine Off.v ?_ | refine Off.k ?_ | refine Off.b ?_ | refine Off.n ?_ | refine Off.p ?_ | refine Off.s ?_ ?_ | omega))) (R.keep ow3 (by repeat' (first | exact trivial | refine Off.v ?_ | refine Off.k ?_ | refine Off.b ?_ | refine Off.n ?_ | refine Off.p ?_ | refine Off.s ?_ ?_ | omega))) (R.keep ow4 (by repeat' (first | exact trivial | refine Off.v ?_ | refine Off.k ?_ | refine Off.b ?_ | refine Off.n ?_ | refine Off.p ?_ | refine Off.s ?_ ?_ | omega)))), fun a w R => ex0 (R.val 3), fun a w R => ex1 (R.val 3), fun a w R => so_R (R.slot 6 rfl) (R.own rfl ow6) rfl (R.val 4), fun a w R => asg (R.val 5), trivial⟩ (fun act_ W1 I => ?_)
  rw [I.act [(8, .agg #[.int .u64 (L0 an), .int .u64 (L1 an), .int .u64 (L2 an), .int .u64 (L3 an), .int .u64 (L0 ad), .int .u64 (L1 ad), .int .u64 (L2 ad), .int .u64 (L3 ad)]), (9, .agg #[.int .u64 (L0 bn), .int .u64 (L1 bn), .int .u64 (L2 bn), .int .u64 (L3 bn), .int .u64 (L0 bd), .int .u64 (L1 bd), .int .u64 (L2 bd), .int .u64 (L3 bd)]), (10, .func (.func 54) #[] #[.pointer (some ⟨(w.heap.size + 1 + 1), 0, none⟩), .pointer (some ⟨w.heap.size, 0, none⟩), .pointer (some ⟨(w.heap.size + 1), 0, none⟩)]), (11, .tuple #[.agg #[.int .u64 (L0 p), .int .u64 (L1 p), .int .u64 (L2 p), .int .u64 (L3 p), .int .u64 (L0 q), .int .u64 (L1 q), .int .u64 (L2 q), .int .u64 (L3 q)], .int .i64 er]), (12, .agg #[.int .u64 (L0 p), .int .u64 (L1 p), .int .u64 (L2 p), .int .u64 (L3 p), .int .u64 (L0 q), .int .u64 (L1 q), .int .u64 (L2 q), .int .u64 (L3 q)]), (13, .int .i64 er), (7, .int .i64 er)]
    ⟨I.val 0, I.val 1, I.val 2, I.val 3, I.val 4, I.val 5, I.val 7, trivial⟩ rfl]
  have sW1 : W0.heap.size ≤ W1.heap.size := I.below.size
  replace ow3 := I.keep ow3 (by repeat' (first | exact trivial | refine Off.v ?_ | refine Off.k ?_ | refine Off.b ?_ | refine Off.n ?_ | refine Off.p ?_ | refine Off.s ?_ ?_ | omega))
  replace ow4 := I.keep ow4 (by repeat' (first | exact trivial | refine Off.v ?_ | refine Off.k ?_ | refine Off.b ?_ | refine Off.n ?_ | refine Off.p ?_ | refine Off.s ?_ ?_ | omega))
  replace ow5 := I.keep ow5 (by repeat' (first | exact trivial | refine Off.v ?_ | refine Off.k ?_ | refine Off.b ?_ | refine Off.n ?_ | refine Off.p ?_ | refine Off.s ?_ ?_ | omega))
  replace ow6 := I.sto 6 rfl rfl
  have hW1 : Below w.heap.size w W1 := hW0.trans I.below
  clear I
  simp only [List.foldl_cons, List.foldl_nil, List.setIfInBounds_toArray, List.set_cons_zero, List.set_cons_succ]
  obtain ⟨r6_, r6_1, r6_2⟩ := ow6.at_
  clear ow3 ow4 ow5 ow6
  go_wp2
  try simp only [setCell_drawn]
  refine bodyPost_ret (by first | (simp [results, Tryd.results28, go_sem, r6_]; done) | (simp [results, Tryd.results28, go_sem, r6_]; rfl)) rfl ⟨?_, hW1⟩
  rfl
set_option maxHeartbeats 16000000 in
set_option maxRecDepth 20000 in
theorem RAdd_of {an ad bn bd p q er : Int} {w : World} (HK0 : ∀ w, Calls Tryd.prog 28 #[.agg #[.int .u64 (L0 an), .int .u64 (L1 an), .int .u64 (L2 an), .int .u64 (L3 an), .int .u64 (L0 ad), .int .u64 (L1 ad), .int .u64 (L2 ad), .int .u64 (L3 ad)], .agg #[.int .u64 (L0 bn), .int .u64 (L1 bn), .int .u64 (L2 bn), .int .u64 (L3 bn), .int .u64 (L0 bd), .int .u64 (L1 bd), .int .u64 (L2 bd), .int .u64 (L3 bd)], .func (.func 29) #[] #[]] w fun e w' => e = .returned (.tuple #[.agg #[.int .u64 (L0 p), .int .u64 (L1 p), .int .u64 (L2 p), .int .u64 (L3 p), .int .u64 (L0 q), .int .u64 (L1 q), .int .u64 (L2 q), .int .u64 (L3 q)], .int .i64 er]) ∧ Below w.heap.size w w') : Calls Tryd.prog 9 #[.agg #[.int .u64 (L0 an), .int .u64 (L1 an), .int .u64 (L2 an), .int .u64 (L3 an), .int .u64 (L0 ad), .int .u64 (L1 ad), .int .u64 (L2 ad), .int .u64 (L3 ad)], .agg #[.int .u64 (L0 bn), .int .u64 (L1 bn), .int .u64 (L2 bn), .int .u64 (L3 bn), .int .u64 (L0 bd), .int .u64 (L1 bd), .int .u64 (L2 bd), .int .u64 (L3 bd)]] w fun e w' => e = .returned (.tuple #[.agg #[.int .u64 (L0 p), .int .u64 (L1 p), .int .u64 (L2 p), .int .u64 (L3 p), .int .u64 (L0 q), .int .u64 (L1 q), .int .u64 (L2 q), .int .u64 (L3 q)], .int .i64 er]) ∧ Below w.heap.size w w' := by
  have HK := Lib.hid HK0
  clear HK0
  go_enter Tryd.func9, Tryd.ntmps9
  go_upto_region 1 with fail
  go_name_world W0 hW0e
  have ow2 : Own W0 w.heap.size 26 #[.int .u64 (L0 an), .int .u64 (L1 an), .int .u64 (L2 an), .int .u64 (L3 an), .int .u64 (L0 ad), .int .u64 (L1 ad), .int .u64 (L2 ad), .int .u64 (L3 ad)] := hW0e ▸ (by repeat' (first | (with_reducible assumption) | (with_reducible refine Own.drawnN ?_ _) | (with_reducible refine Own.drawn ?_) | (with_reducible refine Own.made_at ?_; first | rfl | (simp; done) | omega | (simp; omega)) | (with_reducible refine Own.more ?_ _) | (with_reducible refine Own.apart ?_ ?_ _ _; rotate_left; first | omega | (simp; done) | (simp; omega)) | (refine Own.put ?_ _ _)))
  have ow3 : Own W0 (w.heap.size + 1) 26 #[.int .u64 (L0 bn), .int .u64 (L1 bn), .int .u64 (L2 bn), .int .u64 (L3 bn), .int .u64 (L0 bd), .int .u64 (L1 bd), .int .u64 (L2 bd), .int .u64 (L3 bd)] := hW0e ▸ (by repeat' (first | (with_reducible assumption) | (with_reducible refine Own.drawnN ?_ _) | (with_reducible refine Own.drawn ?_) | (with_reducible refine Own.made_at ?_; first | rfl | (simp; done) | omega | (simp; omega)) | (with_reducible refine Own.more ?_ _) | (with_reducible refine Own.apart ?_ ?_ _ _; rotate_left; first | omega | (simp; done) | (simp; omega)) | (refine Own.put ?_ _ _)))
  have ow4 : Own W0 (w.heap.size + 1 + 1) 26 #[.int .u64 0, .int .u64 0, .int .u64 0, .int .u64 0, .int .u64 0, .int .u64 0, .int .u64 0, .int .u64 0] := hW0e ▸ (by repeat' (first | (with_reducible assumption) | (with_reducible refine Own.drawnN ?_ _) | (with_reducible refine Own.drawn ?_) | (with_reducible refine Own.made_at ?_; first | rfl | (simp; done) | omega | (simp; omega)) | (with_reducible refine Own.more ?_ _) | (with_reducible refine Own.apart ?_ ?_ _ _; rotate_left; first | omega | (simp; done) | (simp; omega)) | (refine Own.put ?_ _ _)))
  have hW0 : Below w.heap.size w W0 := hW0e ▸ (by repeat' (first | (with_reducible exact Below.refl _ _) | (with_reducible assumption) | (with_reducible refine below_drewN ?_ _) | (with_reducible refine Below.drew ?_) | (with_reducible refine Below.alloc ?_ ?_ _) | (with_reducible refine Below.setCell ?_ ?_ _) | (with_reducible refine then_ ?_ (by with_reducible assumption) ?_) | (with_reducible exact Nat.le_refl _) | (with_reducible exact Nat.le_succ _) | (with_reducible exact Nat.le_succ_of_le (by with_reducible assumption)) | omega | (simp; done) | (simp; omega) | (exact Nat.le_succ _) | (exact Nat.le_succ_of_le (by with_reducible assumption))))
  clear hW0e
  have zown := ow4.in_
  go_upto_region 1 with fail
  refine region_memo_f (B := w.heap.size) (L := .val (.agg #[.int .u64 (L0 an), .int .u64 (L1 an), .int .u64 (L2 an), .int .u64 (L3 an), .int .u64 (L0 ad), .int .u64 (L1 ad), .int .u64 (L2 ad), .int .u64 (L3 ad)]) :: .val (.agg #[.int .u64 (L0 bn), .int .u64 (L1 bn), .int .u64 (L2 bn), .int .u64 (L3 bn), .int .u64 (L0 bd), .int .u64 (L1 bd), .int .u64 (L2 bd), .int .u64 (L3 bd)]) :: .val (.tuple #[.agg #[.int .u64 (L0 p), .int .u64 (L1 p), .int .u64 (L2 p), .int .u64 (L3 p), .int .u64 (L0 q), .int .u64 (L1 q), .int .u64 (L2 q), .int .u64 (L3 q)], .int .i64 er]) :: .val (.agg #[.int .u64 (L0 p), .int .u64 (L1 p), .int .u64 (L2 p), .int .u64 (L3 p), .int .u64 (L0 q), .int .u64 (L1 q), .int .u64 (L2 q), .int .u64 (L3 q)]) :: .val (.int .i64 er) :: .sto (w.heap.size + 1 + 1) 26 #[.int .u64 (L0 p), .int .u64 (L1 p), .int .u64 (L2 p), .int .u64 (L3 p), .int .u64 (L0 q), .int .u64 (L1 q), .int .u64 (L2 q), .int .u64 (L3 q)] :: .val (.int .i64 er) :: []) (by kernel_rfl) (hW0.size) (Olds.v (Olds.v (Olds.v (Olds.v (Olds.v (Olds.s (by omega) ow4.in_ (by repeat' (first | exact trivial | refine Off.v ?_ | refine Off.k ?_ | refine Off.b ?_ | refine Off.n ?_ | refine Off.p ?_ | refine Off.s ?_ ?_ | omega)) (Olds.v trivial)))))))
    ⟨fun a w R => ld_R (R.slot 2 rfl) (R.keep ow2 (by repeat' (first | exact trivial | refine Off.v ?_ | refine Off.k ?_ | refine Off.b ?_ | refine Off.n ?_ | refine Off.p ?_ | refine Off.s ?_ ?_ | omega))) rfl rfl rfl rfl rfl rfl rfl rfl, fun a w R => ld_R (R.slot 3 rfl) (R.keep ow3 (by repeat' (first | exact trivial | refine Off.v ?_ | refine Off.k ?_ | refine Off.b ?_ | refine Off.n ?_ | refine Off.p ?_ | refine Off.s ?_ ?_ | omega))) rfl rfl rfl rfl rfl rfl rfl rfl, fun a w R => cl_ttf (enter_at Tryd.func28) (R.val 0) (R.val 1) (HK.out _), fun a w R => ex0 (R.val 2), fun a w R => ex1 (R.val 2), fun a w R => so_R (R.slot 4 rfl) (R.own rfl ow4) rfl (R.val 3), fun a w R => asg (R.val 4), trivial⟩ (fun act_ W1 I => ?_)
  rw [I.act [(6, .agg #[.int .u64 (L0 an), .int .u64 (L1 an), .int .u64 (L2 an), .int .u64 (L3 an), .int .u64 (L0 ad), .int .u64 (L1 ad), .int .u64 (L2 ad), .int .u64 (L3 ad)]), (7, .agg #[.int .u64 (L0 bn), .int .u64 (L1 bn), .int .u64 (L2 bn), .int .u64 (L3 bn), .int .u64 (L0 bd), .int .u64 (L1 bd), .int .u64 (L2 bd), .int .u64 (L3 bd)]), (8, .tuple #[.agg #[.int .u64 (L0 p), .int .u64 (L1 p), .int .u64 (L2 p), .int .u64 (L3 p), .int .u64 (L0 q), .int .u64 (L1 q), .int .u64 (L2 q), .int .u64 (L3 q)], .int .i64 er]), (9, .agg #[.int .u64 (L0 p), .int .u64 (L1 p), .int .u64 (L2 p), .int .u64 (L3 p), .int .u64 (L0 q), .int .u64 (L1 q), .int .u64 (L2 q), .int .u64 (L3 q)]), (10, .int .i64 er), (5, .int .i64 er)]
    ⟨I.val 0, I.val 1, I.val 2, I.val 3, I.val 4, I.val 6, trivial⟩ rfl]
  have sW1 : W0.heap.size ≤ W1.heap.size := I.below.size
  replace ow2 := I.keep ow2 (by repeat' (first | exact trivial | refine Off.v ?_ | refine Off.k ?_ | refine Off.b ?_ | refine Off.n ?_ | refine Off.p ?_ | refine Off.s ?_ ?_ | omega))
  replace ow3 := I.keep ow3 (by repeat' (first | exact trivial | refine Off.v ?_ | refine Off.k ?_ | refine Off.b ?_ | refine Off.n ?_ | refine Off.p ?_ | refine Off.s ?_ ?_ | omega))
  replace ow4 := I.sto 5 rfl rfl
  have hW1 : Below w.heap.size w W1 := hW0.trans I.below
  clear I
  simp only [List.foldl_cons, List.foldl_nil, List.setIfInBounds_toArray, List.set_cons_zero, List.set_cons_succ]
  obtain ⟨r4_, r4_1, r4_2⟩ := ow4.at_
  clear ow2 ow3 ow4
  go_wp2
  try simp only [setCell_drawn]
  refine bodyPost_ret (by first | (simp [results, Tryd.results9, go_sem, r4_]; done) | (simp [results, Tryd.results9, go_sem, r4_]; rfl)) rfl ⟨?_, hW1⟩
  rfl
set_option maxHeartbeats 16000000 in
set_option maxRecDepth 20000 in
theorem tot_Sub {an ad bn bd p q er : Int} {w : World} (HK0 : ∀ (W : World) (ph pa pb : Nat), Below w.heap.size w W → Own W ph 80 #[.func (.func 36) #[] #[]] → Own W pa 26 #[.int .u64 (L0 an), .int .u64 (L1 an), .int .u64 (L2 an), .int .u64 (L3 an), .int .u64 (L0 ad), .int .u64 (L1 ad), .int .u64 (L2 ad), .int .u64 (L3 ad)] → Own W pb 26 #[.int .u64 (L0 bn), .int .u64 (L1 bn), .int .u64 (L2 bn), .int .u64 (L3 bn), .int .u64 (L0 bd), .int .u64 (L1 bd), .int .u64 (L2 bd), .int .u64 (L3 bd)] → Calls Tryd.prog 30 #[.agg #[.int .u64 (L0 an), .int .u64 (L1 an), .int .u64 (L2 an), .int .u64 (L3 an), .int .u64 (L0 ad), .int .u64 (L1 ad), .int .u64 (L2 ad), .int .u64 (L3 ad)], .agg #[.int .u64 (L0 bn), .int .u64 (L1 bn), .int .u64 (L2 bn), .int .u64 (L3 bn), .int .u64 (L0 bd), .int .u64 (L1 bd), .int .u64 (L2 bd), .int .u64 (L3 bd)], .func (.func 54) #[] #[.pointer (some ⟨ph, 0, none⟩), .pointer (some ⟨pa, 0, none⟩), .pointer (some ⟨pb, 0, none⟩)]] W fun e w' => e = .returned (.tuple #[.agg #[.int .u64 (L0 p), .int .u64 (L1 p), .int .u64 (L2 p), .int .u64 (L3 p), .int .u64 (L0 q), .int .u64 (L1 q), .int .u64 (L2 q), .int .u64 (L3 q)], .int .i64 er]) ∧ Below W.heap.size W w') : Calls Tryd.prog 28 #[.agg #[.int .u64 (L0 an), .int .u64 (L1 an), .int .u64 (L2 an), .int .u64 (L3 an), .int .u64 (L0 ad), .int .u64 (L1 ad), .int .u64 (L2 ad), .int .u64 (L3 ad)], .agg #[.int .u64 (L0 bn), .int .u64 (L1 bn), .int .u64 (L2 bn), .int .u64 (L3 bn), .int .u64 (L0 bd), .int .u64 (L1 bd), .int .u64 (L2 bd), .int .u64 (L3 bd)], .func (.func 36) #[] #[]] w fun e w' => e = .returned (.tuple #[.agg #[.int .u64 (L0 p), .int .u64 (L1 p), .int .u64 (L2 p), .int .u64 (L3 p), .int .u64 (L0 q), .int .u64 (L1 q), .int .u64 (L2 q), .int .u64 (L3 q)], .int .i64 er]) ∧ Below w.heap.size w w' := by
  have HK := Lib.hid HK0
  clear HK0
  go_enter Tryd.func28, Tryd.ntmps28
  go_upto_region 1 with fail
  go_name_world W0 hW0e
  have ow3 : Own W0 w.heap.size 26 #[.int .u64 (L0 an), .int .u64 (L1 an), .int .u64 (L2 an), .int .u64 (L3 an), .int .u64 (L0 ad), .int .u64 (L1 ad), .int .u64 (L2 ad), .int .u64 (L3 ad)] := hW0e ▸ (by repeat' (first | (with_reducible assumption) | (with_reducible refine Own.drawnN ?_ _) | (with_reducible refine Own.drawn ?_) | (with_reducible refine Own.made_at ?_; first | rfl | (simp; done) | omega | (simp; omega)) | (with_reducible refine Own.more ?_ _) | (with_reducible refine Own.apart ?_ ?_ _ _; rotate_left; first | omega | (simp; done) | (simp; omega)) | (refine Own.put ?_ _ _)))
  have ow4 : Own W0 (w.heap.size + 1) 26 #[.int .u64 (L0 bn), .int .u64 (L1 bn), .int .u64 (L2 bn), .int .u64 (L3 bn), .int .u64 (L0 bd), .int .u64 (L1 bd), .int .u64 (L2 bd), .int .u64 (L3 bd)] := hW0e ▸ (by repeat' (first | (with_reducible assumption) | (with_reducible refine Own.drawnN ?_ _) | (with_reducible refine Own.drawn ?_) | (with_reducible refine Own.made_at ?_; first | rfl | (simp; done) | omega | (simp; omega)) | (with_reducible refine Own.more ?_ _) | (with_reducible refine Own.apart ?_ ?_ _ _; rotate_left; first | omega | (simp; done) | (simp; omega)) | (refine Own.put ?_ _ _)))
  have ow5 : Own W0 (w.heap.size + 1 + 1) 80 #[.func (.func 36) #[] #[]] := hW0e ▸ (by repeat' (first | (with_reducible assumption) | (with_reducible refine Own.drawnN ?_ _) | (with_reducible refine Own.drawn ?_) | (with_reducible refine Own.made_at ?_; first | rfl | (simp; done) | omega | (simp; omega)) | (with_reducible refine Own.more ?_ _) | (with_reducible refine Own.apart ?_ ?_ _ _; rotate_left; first | omega | (simp; done) | (simp; omega)) | (refine Own.put ?_ _ _)))
  have ow6 : Own W0 (w.heap.size + 1 + 1 + 1) 26 #[.int .u64 0, .int .u64 0, .int .u64 0, .int .u64 0, .int .u64 0, .int .u64 0, .int .u64 0, .int .u64 0] := hW0e ▸ (by repeat' (first | (with_reducible assumption) | (with_reducible refine Own.drawnN ?_ _) | (with_reducible refine Own.drawn ?_) | (with_reducible refine Own.made_at ?_; first | rfl | (simp; done) | omega | (simp; omega)) | (with_reducible refine Own.more ?_ _) | (with_reducible refine Own.apart ?_ ?_ _ _; rotate_left; first | omega | (simp; done) | (simp; omega)) | (refine Own.put ?_ _ _)))
  have hW0 : Below w.heap.size w W0 := hW0e ▸ (by repeat' (first | (with_reducible exact Below.refl _ _) | (with_reducible assumption) | (with_reducible refine below_drewN ?_ _) | (with_reducible refine Below.drew ?_) | (with_reducible refine Below.alloc ?_ ?_ _) | (with_reducible refine Below.setCell ?_ ?_ _) | (with_reducible refine then_ ?_ (by with_reducible assumption) ?_) | (with_reducible exact Nat.le_refl _) | (with_reducible exact Nat.le_succ _) | (with_reducible exact Nat.le_succ_of_le (by with_reducible assumption)) | omega | (simp; done) | (simp; omega) | (exact Nat.le_succ _) | (exact Nat.le_succ_of_le (by with_reducible assumption))))
  clear hW0e
  have zown := ow6.in_
  go_upto_region 1 with fail
  refine region_memo_f (B := w.heap.size) (L := .val (.agg #[.int .u64 (L0 an), .int .u64 (L1 an), .int .u64 (L2 an), .int .u64 (L3 an), .int .u64 (L0 ad), .int .u64 (L1 ad), .int .u64 (L2 ad), .int .u64 (L3 ad)]) :: .val (.agg #[.int .u64 (L0 bn), .int .u64 (L1 bn), .int .u64 (L2 bn), .int .u64 (L3 bn), .int .u64 (L0 bd), .int .u64 (L1 bd), .int .u64 (L2 bd), .int .u64 (L3 bd)]) :: .val (.func (.func 54) #[] #[.pointer (some ⟨(w.heap.size + 1 + 1), 0, none⟩), .pointer (some ⟨w.heap.size, 0, none⟩), .pointer (some ⟨(w.heap.size + 1), 0, none⟩)]) :: .val (.tuple #[.agg #[.int .u64 (L0 p), .int .u64 (L1 p), .int .u64 (L2 p), .int .u64 (L3 p), .int .u64 (L0 q), .int .u64 (L1 q), .int .u64 (L2 q), .int .u64 (L3 q)], .int .i64 er]) :: .val (.agg #[.int .u64 (L0 p), .int .u64 (L1 p), .int .u64 (L2 p), .int .u64 (L3 p), .int .u64 (L0 q), .int .u64 (L1 q), .int .u64 (L2 q), .int .u64 (L3 q)]) :: .val (.int .i64 er) :: .sto (w.heap.size + 1 + 1 + 1) 26 #[.int .u64 (L0 p), .int .u64 (L1 p), .int .u64 (L2 p), .int .u64 (L3 p), .int .u64 (L0 q), .int .u64 (L1 q), .int .u64 (L2 q), .int .u64 (L3 q)] :: .val (.int .i64 er) :: []) (by kernel_rfl) (hW0.size) (Olds.v (Olds.v (Olds.v (Olds.v (Olds.v (Olds.v (Olds.s (by omega) ow6.in_ (by repeat' (first | exact trivial | refine Off.v ?_ | refine Off.k ?_ | refine Off.b ?_ | refine Off.n ?_ | refine Off.p ?_ | refine Off.s ?_ ?_ | omega)) (Olds.v trivial))))))))
    ⟨fun a w R => ld_R (R.slot 3 rfl) (R.keep ow3 (by repeat' (first | exact trivial | refine Off.v ?_ | refine Off.k ?_ | refine Off.b ?_ | refine Off.n ?_ | refine Off.p ?_ | refine Off.s ?_ ?_ | omega))) rfl rfl rfl rfl rfl rfl rfl rfl, fun a w R => ld_R (R.slot 4 rfl) (R.keep ow4 (by repeat' (first | exact trivial | refine Off.v ?_ | refine Off.k ?_ | refine Off.b ?_ | refine Off.n ?_ | refine Off.p ?_ | refine Off.s ?_ ?_ | omega))) rfl rfl rfl rfl rfl rfl rfl rfl, fun a w R => mf3 (R.slot 5 rfl) (R.slot 3 rfl) (R.slot 4 rfl), fun a w R => cl_ttt (enter_at Tryd.func30) (R.val 0) (R.val 1) (R.val 2) (HK.out _ _ _ _ (hW0.trans R.below) (R.keep ow5 (by repeat' (first | exact trivial | refine Off.v ?_ | refine Off.k ?_ | refine Off.b ?_ | refine Off.n ?_ | refine Off.p ?_ | refine Off.s ?_ ?_ | omega))) (R.keep ow3 (by repeat' (first | exact trivial | refine Off.v ?_ | refine Off.k ?_ | refine Off.b ?_ | refine Off.n ?_ | refine Off.p ?_ | refine Off.s ?_ ?_ | omega))) (R.keep ow4 (by repeat' (first | exact trivial | refine Off.v ?_ | refine Off.k ?_ | refine Off.b ?_ | refine Off.n ?_ | refine Off.p ?_ | refine Off.s ?_ ?_ | omega)))), fun a w R => ex0 (R.val 3), fun a w R => ex1 (R.val 3), fun a w R => so_R (R.slot 6 rfl) (R.own rfl ow6) rfl (R.val 4), fun a w R => asg (R.val 5), trivial⟩ (fun act_ W1 I => ?_)
  rw [I.act [(8, .agg #[.int .u64 (L0 an), .int .u64 (L1 an), .int .u64 (L2 an), .int .u64 (L3 an), .int .u64 (L0 ad), .int .u64 (L1 ad), .int .u64 (L2 ad), .int .u64 (L3 ad)]), (9, .agg #[.int .u64 (L0 bn), .int .u64 (L1 bn), .int .u64 (L2 bn), .int .u64 (L3 bn), .int .u64 (L0 bd), .int .u64 (L1 bd), .int .u64 (L2 bd), .int .u64 (L3 bd)]), (10, .func (.func 54) #[] #[.pointer (some ⟨(w.heap.size + 1 + 1), 0, none⟩), .pointer (some ⟨w.heap.size, 0, none⟩), .pointer (some ⟨(w.heap.size + 1), 0, none⟩)]), (11, .tuple #[.agg #[.int .u64 (L0 p), .int .u64 (L1 p), .int .u64 (L2 p), .int .u64 (L3 p), .int .u64 (L0 q), .int .u64 (L1 q), .int .u64 (L2 q), .int .u64 (L3 q)], .int .i64 er]), (12, .agg #[.int .u64 (L0 p), .int .u64 (L1 p), .int .u64 (L2 p), .int .u64 (L3 p), .int .u64 (L0 q), .int .u64 (L1 q), .int .u64 (L2 q), .int .u64 (L3 q)]), (13, .int .i64 er), (7, .int .i64 er)]
    ⟨I.val 0, I.val 1, I.val 2, I.val 3, I.val 4, I.val 5, I.val 7, trivial⟩ rfl]
  have sW1 : W0.heap.size ≤ W1.heap.size := I.below.size
  replace ow3 := I.keep ow3 (by repeat' (first | exact trivial | refine Off.v ?_ | refine Off.k ?_ | refine Off.b ?_ | refine Off.n ?_ | refine Off.p ?_ | refine Off.s ?_ ?_ | omega))
  replace ow4 := I.keep ow4 (by repeat' (first | exact trivial | refine Off.v ?_ | refine Off.k ?_ | refine Off.b ?_ | refine Off.n ?_ | refine Off.p ?_ | refine Off.s ?_ ?_ | omega))
  replace ow5 := I.keep ow5 (by repeat' (first | exact trivial | refine Off.v ?_ | refine Off.k ?_ | refine Off.b ?_ | refine Off.n ?_ | refine Off.p ?_ | refine Off.s ?_ ?_ | omega))
  replace ow6 := I.sto 6 rfl rfl
  have hW1 : Below w.heap.size w W1 := hW0.trans I.below
  clear I
  simp only [List.foldl_cons, List.foldl_nil, List.setIfInBounds_toArray, List.set_cons_zero, List.set_cons_succ]
  obtain ⟨r6_, r6_1, r6_2⟩ := ow6.at_
  clear ow3 ow4 ow5 ow6
  go_wp2
  try simp only [setCell_drawn]
  refine bodyPost_ret (by first | (simp [results, Tryd.results28, go_sem, r6_]; done) | (simp [results, Tryd.results28, go_sem, r6_]; rfl)) rfl ⟨?_, hW1⟩
  rfl
set_option maxHeartbeats 16000000 in
set_option maxRecDepth 20000 in
theorem RSub_of {an ad bn bd p q er : Int} {w : World} (HK0 : ∀ w, Calls Tryd.prog 28 #[.agg #[.int .u64 (L0 an), .int .u64 (L1 an), .int .u64 (L2 an), .int .u64 (L3 an), .int .u64 (L0 ad), .int .u64 (L1 ad), .int .u64 (L2 ad), .int .u64 (L3 ad)], .agg #[.int .u64 (L0 bn), .int .u64 (L1 bn), .int .u64 (L2 bn), .int .u64 (L3 bn), .int .u64 (L0 bd), .int .u64 (L1 bd), .int .u64 (L2 bd), .int .u64 (L3 bd)], .func (.func 36) #[] #[]] w fun e w' => e = .returned (.tuple #[.agg #[.int .u64 (L0 p), .int .u64 (L1 p), .int .u64 (L2 p), .int .u64 (L3 p), .int .u64 (L0 q), .int .u64 (L1 q), .int .u64 (L2 q), .int .u64 (L3 q)], .int .i64 er]) ∧ Below w.heap.size w w') : Calls Tryd.prog 13 #[.agg #[.int .u64 (L0 an), .int .u64 (L1 an), .int .u64 (L2 an), .int .u64 (L3 an), .int .u64 (L0 ad), .int .u64 (L1 ad), .int .u64 (L2 ad), .int .u64 (L3 ad)], .agg #[.int .u64 (L0 bn), .int .u64 (L1 bn), .int .u64 (L2 bn), .int .u64 (L3 bn), .int .u64 (L0 bd), .int .u64 (L1 bd), .int .u64 (L2 bd), .int .u64 (L3 bd)]] w fun e w' => e = .returned (.tuple #[.agg #[.int .u64 (L0 p), .int .u64 (L1 p), .int .u64 (L2 p), .int .u64 (L3 p), .int .u64 (L0 q), .int .u64 (L1 q), .int .u64 (L2 q), .int .u64 (L3 q)], .int .i64 er]) ∧ Below w.heap.size w w' := by
  have HK := Lib.hid HK0
  clear HK0
  go_enter Tryd.func13, Tryd.ntmps13
  go_upto_region 1 with fail
  go_name_world W0 hW0e
  have ow2 : Own W0 w.heap.size 26 #[.int .u64 (L0 an), .int .u64 (L1 an), .int .u64 (L2 an), .int .u64 (L3 an), .int .u64 (L0 ad), .int .u64 (L1 ad), .int .u64 (L2 ad), .int .u64 (L3 ad)] := hW0e ▸ (by repeat' (first | (with_reducible assumption) | (with_reducible refine Own.drawnN ?_ _) | (with_reducible refine Own.drawn ?_) | (with_reducible refine Own.made_at ?_; first | rfl | (simp; done) | omega | (simp; omega)) | (with_reducible refine Own.more ?_ _) | (with_reducible refine Own.apart ?_ ?_ _ _; rotate_left; first | omega | (simp; done) | (simp; omega)) | (refine Own.put ?_ _ _)))
  have ow3 : Own W0 (w.heap.size + 1) 26 #[.int .u64 (L0 bn), .int .u64 (L1 bn), .int .u64 (L2 bn), .int .u64 (L3 bn), .int .u64 (L0 bd), .int .u64 (L1 bd), .int .u64 (L2 bd), .int .u64 (L3 bd)] := hW0e ▸ (by repeat' (first | (with_reducible assumption) | (with_reducible refine Own.drawnN ?_ _) | (with_reducible refine Own.drawn ?_) | (with_reducible refine Own.made_at ?_; first | rfl | (simp; done) | omega | (simp; omega)) | (with_reducible refine Own.more ?_ _) | (with_reducible refine Own.apart ?_ ?_ _ _; rotate_left; first | omega | (simp; done) | (simp; omega)) | (refine Own.put ?_ _ _)))
  have ow4 : Own W0 (w.heap.size + 1 + 1) 26 #[.int .u64 0, .int .u64 0, .int .u64 0, .int .u64 0, .int .u64 0, .int .u64 0, .int .u64 0, .int .u64 0] := hW0e ▸ (by repeat' (first | (with_reducible assumption) | (with_reducible refine Own.drawnN ?_ _) | (with_reducible refine Own.drawn ?_) | (with_reducible refine Own.made_at ?_; first | rfl | (simp; done) | omega | (simp; omega)) | (with_reducible refine Own.more ?_ _) | (with_reducible refine Own.apart ?_ ?_ _ _; rotate_left; first | omega | (simp; done) | (simp; omega)) | (refine Own.put ?_ _ _)))
  have hW0 : Below w.heap.size w W0 := hW0e ▸ (by repeat' (first | (with_reducible exact Below.refl _ _) | (with_reducible assumption) | (with_reducible refine below_drewN ?_ _) | (with_reducible refine Below.drew ?_) | (with_reducible refine Below.alloc ?_ ?_ _) | (with_reducible refine Below.setCell ?_ ?_ _) | (with_reducible refine then_ ?_ (by with_reducible assumption) ?_) | (with_reducible exact Nat.le_refl _) | (with_reducible exact Nat.le_succ _) | (with_reducible exact Nat.le_succ_of_le (by with_reducible assumption)) | omega | (simp; done) | (simp; omega) | (exact Nat.le_succ _) | (exact Nat.le_succ_of_le (by with_reducible assumption))))
  clear hW0e
  have zown := ow4.in_
  go_upto_region 1 with fail
  refine region_memo_f (B := w.heap.size) (L := .val (.agg #[.int .u64 (L0 an), .int .u64 (L1 an), .int .u64 (L2 an), .int .u64 (L3 an), .int .u64 (L0 ad), .int .u64 (L1 ad), .int .u64 (L2 ad), .int .u64 (L3 ad)]) :: .val (.agg #[.int .u64 (L0 bn), .int .u64 (L1 bn), .int .u64 (L2 bn), .int .u64 (L3 bn), .int .u64 (L0 bd), .int .u64 (L1 bd), .int .u64 (L2 bd), .int .u64 (L3 bd)]) :: .val (.tuple #[.agg #[.int .u64 (L0 p), .int .u64 (L1 p), .int .u64 (L2 p), .int .u64 (L3 p), .int .u64 (L0 q), .int .u64 (L1 q), .int .u64 (L2 q), .int .u64 (L3 q)], .int .i64 er]) :: .val (.agg #[.int .u64 (L0 p), .int .u64 (L1 p), .int .u64 (L2 p), .int .u64 (L3 p), .int .u64 (L0 q), .int .u64 (L1 q), .int .u64 (L2 q), .int .u64 (L3 q)]) :: .val (.int .i64 er) :: .sto (w.heap.size + 1 + 1) 26 #[.int .u64 (L0 p), .int .u64 (L1 p), .int .u64 (L2 p), .int .u64 (L3 p), .int .u64 (L0 q), .int .u64 (L1 q), .int .u64 (L2 q), .int .u64 (L3 q)] :: .val (.int .i64 er) :: []) (by kernel_rfl) (hW0.size) (Olds.v (Olds.v (Olds.v (Olds.v (Olds.v (Olds.s (by omega) ow4.in_ (by repeat' (first | exact trivial | refine Off.v ?_ | refine Off.k ?_ | refine Off.b ?_ | refine Off.n ?_ | refine Off.p ?_ | refine Off.s ?_ ?_ | omega)) (Olds.v trivial)))))))
    ⟨fun a w R => ld_R (R.slot 2 rfl) (R.keep ow2 (by repeat' (first | exact trivial | refine Off.v ?_ | refine Off.k ?_ | refine Off.b ?_ | refine Off.n ?_ | refine Off.p ?_ | refine Off.s ?_ ?_ | omega))) rfl rfl rfl rfl rfl rfl rfl rfl, fun a w R => ld_R (R.slot 3 rfl) (R.keep ow3 (by repeat' (first | exact trivial | refine Off.v ?_ | refine Off.k ?_ | refine Off.b ?_ | refine Off.n ?_ | refine Off.p ?_ | refine Off.s ?_ ?_ | omega))) rfl rfl rfl rfl rfl rfl rfl rfl, fun a w R => cl_ttf (enter_at Tryd.func28) (R.val 0) (R.val 1) (HK.out _), fun a w R => ex0 (R.val 2), fun a w R => ex1 (R.val 2), fun a w R => so_R (R.slot 4 rfl) (R.own rfl ow4) rfl (R.val 3), fun a w R => asg (R.val 4), trivial⟩ (fun act_ W1 I => ?_)
  rw [I.act [(6, .agg #[.int .u64 (L0 an), .int .u64 (L1 an), .int .u64 (L2 an), .int .u64 (L3 an), .int .u64 (L0 ad), .int .u64 (L1 ad), .int .u64 (L2 ad), .int .u64 (L3 ad)]), (7, .agg #[.int .u64 (L0 bn), .int .u64 (L1 bn), .int .u64 (L2 bn), .int .u64 (L3 bn), .int .u64 (L0 bd), .int .u64 (L1 bd), .int .u64 (L2 bd), .int .u64 (L3 bd)]), (8, .tuple #[.agg #[.int .u64 (L0 p), .int .u64 (L1 p), .int .u64 (L2 p), .int .u64 (L3 p), .int .u64 (L0 q), .int .u64 (L1 q), .int .u64 (L2 q), .int .u64 (L3 q)], .int .i64 er]), (9, .agg #[.int .u64 (L0 p), .int .u64 (L1 p), .int .u64 (L2 p), .int .u64 (L3 p), .int .u64 (L0 q), .int .u64 (L1 q), .int .u64 (L2 q), .int .u64 (L3 q)]), (10, .int .i64 er), (5, .int .i64 er)]
    ⟨I.val 0, I.val 1, I.val 2, I.val 3, I.val 4, I.val 6, trivial⟩ rfl]
  have sW1 : W0.heap.size ≤ W1.heap.size := I.below.size
  replace ow2 := I.keep ow2 (by repeat' (first | exact trivial | refine Off.v ?_ | refine Off.k ?_ | refine Off.b ?_ | refine Off.n ?_ | refine Off.p ?_ | refine Off.s ?_ ?_ | omega))
  replace ow3 := I.keep ow3 (by repeat' (first | exact trivial | refine Off.v ?_ | refine Off.k ?_ | refine Off.b ?_ | refine Off.n ?_ | refine Off.p ?_ | refine Off.s ?_ ?_ | omega))
  replace ow4 := I.sto 5 rfl rfl
  have hW1 : Below w.heap.size w W1 := hW0.trans I.below
  clear I
  simp only [List.foldl_cons, List.foldl_nil, List.setIfInBounds_toArray, List.set_cons_zero, List.set_cons_succ]
  obtain ⟨r4_, r4_1, r4_2⟩ := ow4.at_
  clear ow2 ow3 ow4
  go_wp2
  try simp only [setCell_drawn]
  refine bodyPost_ret (by first | (simp [results, Tryd.results13, go_sem, r4_]; done) | (simp [results, Tryd.results13, go_sem, r4_]; rfl)) rfl ⟨?_, hW1⟩
  rfl
set_option maxHeartbeats 16000000 in
set_option maxRecDepth 20000 in
theorem RMul_of {an ad bn bd p q er : Int} {w : World} (HK0 : ∀ (W : World) (pa pb : Nat), Below w.heap.size w W → Own W pa 26 #[.int .u64 (L0 an), .int .u64 (L1 an), .int .u64 (L2 an), .int .u64 (L3 an), .int .u64 (L0 ad), .int .u64 (L1 ad), .int .u64 (L2 ad), .int .u64 (L3 ad)] → Own W pb 26 #[.int .u64 (L0 bn), .int .u64 (L1 bn), .int .u64 (L2 bn), .int .u64 (L3 bn), .int .u64 (L0 bd), .int .u64 (L1 bd), .int .u64 (L2 bd), .int .u64 (L3 bd)] → Calls Tryd.prog 30 #[.agg #[.int .u64 (L0 an), .int .u64 (L1 an), .int .u64 (L2 an), .int .u64 (L3 an), .int .u64 (L0 ad), .int .u64 (L1 ad), .int .u64 (L2 ad), .int .u64 (L3 ad)], .agg #[.int .u64 (L0 bn), .int .u64 (L1 bn), .int .u64 (L2 bn), .int .u64 (L3 bn), .int .u64 (L0 bd), .int .u64 (L1 bd), .int .u64 (L2 bd), .int .u64 (L3 bd)], .func (.func 31) #[] #[.pointer (some ⟨pa, 0, none⟩), .pointer (some ⟨pb, 0, none⟩)]] W fun e w' => e = .returned (.tuple #[.agg #[.int .u64 (L0 p), .int .u64 (L1 p), .int .u64 (L2 p), .int .u64 (L3 p), .int .u64 (L0 q), .int .u64 (L1 q), .int .u64 (L2 q), .int .u64 (L3 q)], .int .i64 er]) ∧ Below W.heap.size W w') : Calls Tryd.prog 10 #[.agg #[.int .u64 (L0 an), .int .u64 (L1 an), .int .u64 (L2 an), .int .u64 (L3 an), .int .u64 (L0 ad), .int .u64 (L1 ad), .int .u64 (L2 ad), .int .u64 (L3 ad)], .agg #[.int .u64 (L0 bn), .int .u64 (L1 bn), .int .u64 (L2 bn), .int .u64 (L3 bn), .int .u64 (L0 bd), .int .u64 (L1 bd), .int .u64 (L2 bd), .int .u64 (L3 bd)]] w fun e w' => e = .returned (.tuple #[.agg #[.int .u64 (L0 p), .int .u64 (L1 p), .int .u64 (L2 p), .int .u64 (L3 p), .int .u64 (L0 q), .int .u64 (L1 q), .int .u64 (L2 q), .int .u64 (L3 q)], .int .i64 er]) ∧ Below w.heap.size w w' := by
  have HK := Lib.hid HK0
  clear HK0
  go_enter Tryd.func10, Tryd.ntmps10
  go_upto_region 1 with fail
  go_name_world W0 hW0e
  have ow2 : Own W0 w.heap.size 26 #[.int .u64 (L0 an), .int .u64 (L1 an), .int .u64 (L2 an), .int .u64 (L3 an), .int .u64 (L0 ad), .int .u64 (L1 ad), .int .u64 (L2 ad), .int .u64 (L3 ad)] := hW0e ▸ (by repeat' (first | (with_reducible assumption) | (with_reducible refine Own.drawnN ?_ _) | (with_reducible refine Own.drawn ?_) | (with_reducible refine Own.made_at ?_; first | rfl | (simp; done) | omega | (simp; omega)) | (with_reducible refine Own.more ?_ _) | (with_reducible refine Own.apart ?_ ?_ _ _; rotate_left; first | omega | (simp; done) | (simp; omega)) | (refine Own.put ?_ _ _)))
  have ow3 : Own W0 (w.heap.size + 1) 26 #[.int .u64 (L0 bn), .int .u64 (L1 bn), .int .u64 (L2 bn), .int .u64 (L3 bn), .int .u64 (L0 bd), .int .u64 (L1 bd), .int .u64 (L2 bd), .int .u64 (L3 bd)] := hW0e ▸ (by repeat' (first | (with_reducible assumption) | (with_reducible refine Own.drawnN ?_ _) | (with_reducible refine Own.drawn ?_) | (with_reducible refine Own.made_at ?_; first | rfl | (simp; done) | omega | (simp; omega)) | (with_reducible refine Own.more ?_ _) | (with_reducible refine Own.apart ?_ ?_ _ _; rotate_left; first | omega | (simp; done) | (simp; omega)) | (refine Own.put ?_ _ _)))
  have ow4 : Own W0 (w.heap.size + 1 + 1) 26 #[.int .u64 0, .int .u64 0, .int .u64 0, .int .u64 0, .int .u64 0, .int .u64 0, .int .u64 0, .int .u64 0] := hW0e ▸ (by repeat' (first | (with_reducible assumption) | (with_reducible refine Own.drawnN ?_ _) | (with_reducible refine Own.drawn ?_) | (with_reducible refine Own.made_at ?_; first | rfl | (simp; done) | omega | (simp; omega)) | (with_reducible refine Own.more ?_ _) | (with_reducible refine Own.apart ?_ ?_ _ _; rotate_left; first | omega | (simp; done) | (simp; omega)) | (refine Own.put ?_ _ _)))
  have hW0 : Below w.heap.size w W0 := hW0e ▸ (by repeat' (first | (with_reducible exact Below.refl _ _) | (with_reducible assumption) | (with_reducible refine below_drewN ?_ _) | (with_reducible refine Below.drew ?_) | (with_reducible refine Below.alloc ?_ ?_ _) | (with_reducible refine Below.setCell ?_ ?_ _) | (with_reducible refine then_ ?_ (by with_reducible assumption) ?_) | (with_reducible exact Nat.le_refl _) | (with_reducible exact Nat.le_succ _) | (with_reducible exact Nat.le_succ_of_le (by with_reducible assumption)) | omega | (simp; done) | (simp; omega) | (exact Nat.le_succ _) | (exact Nat.le_succ_of_le (by with_reducible assumption))))
  clear hW0e
  have zown := ow4.in_
  go_upto_region 1 with fail
  refine region_memo_f (B := w.heap.size) (L := .val (.agg #[.int .u64 (L0 an), .int .u64 (L1 an), .int .u64 (L2 an), .int .u64 (L3 an), .int .u64 (L0 ad), .int .u64 (L1 ad), .int .u64 (L2 ad), .int .u64 (L3 ad)]) :: .val (.agg #[.int .u64 (L0 bn), .int .u64 (L1 bn), .int .u64 (L2 bn), .int .u64 (L3 bn), .int .u64 (L0 bd), .int .u64 (L1 bd), .int .u64 (L2 bd), .int .u64 (L3 bd)]) :: .val (.func (.func 31) #[] #[.pointer (some ⟨w.heap.size, 0, none⟩), .pointer (some ⟨(w.heap.size + 1), 0, none⟩)]) :: .val (.tuple #[.agg #[.int .u64 (L0 p), .int .u64 (L1 p), .int .u64 (L2 p), .int .u64 (L3 p), .int .u64 (L0 q), .int .u64 (L1 q), .int .u64 (L2 q), .int .u64 (L3 q)], .int .i64 er]) :: .val (.agg #[.int .u64 (L0 p), .int .u64 (L1 p), .int .u64 (L2 p), .int .u64 (L3 p), .int .u64 (L0 q), .int .u64 (L1 q), .int .u64 (L2 q), .int .u64 (L3 q)]) :: .val (.int .i64 er) :: .sto (w.heap.size + 1 + 1) 26 #[.int .u64 (L0 p), .int .u64 (L1 p), .int .u64 (L2 p), .int .u64 (L3 p), .int .u64 (L0 q), .int .u64 (L1 q), .int .u64 (L2 q), .int .u64 (L3 q)] :: .val (.int .i64 er) :: []) (by kernel_rfl) (hW0.size) (Olds.v (Olds.v (Olds.v (Olds.v (Olds.v (Olds.v (Olds.s (by omega) ow4.in_ (by repeat' (first | exact trivial | refine Off.v ?_ | refine Off.k ?_ | refine Off.b ?_ | refine Off.n ?_ | refine Off.p ?_ | refine Off.s ?_ ?_ | omega)) (Olds.v trivial))))))))
    ⟨fun a w R => ld_R (R.slot 2 rfl) (R.keep ow2 (by repeat' (first | exact trivial | refine Off.v ?_ | refine Off.k ?_ | refine Off.b ?_ | refine Off.n ?_ | refine Off.p ?_ | refine Off.s ?_ ?_ | omega))) rfl rfl rfl rfl rfl rfl rfl rfl, fun a w R => ld_R (R.slot 3 rfl) (R.keep ow3 (by repeat' (first | exact trivial | refine Off.v ?_ | refine Off.k ?_ | refine Off.b ?_ | refine Off.n ?_ | refine Off.p ?_ | refine Off.s ?_ ?_ | omega))) rfl rfl rfl rfl rfl rfl rfl rfl, fun a w R => mf2 (R.slot 2 rfl) (R.slot 3 rfl), fun a w R => cl_ttt (enter_at Tryd.func30) (R.val 0) (R.val 1) (R.val 2) (HK.out _ _ _ (hW0.trans R.below) (R.keep ow2 (by repeat' (first | exact trivial | refine Off.v ?_ | refine Off.k ?_ | refine Off.b ?_ | refine Off.n ?_ | refine Off.p ?_ | refine Off.s ?_ ?_ | omega))) (R.keep ow3 (by repeat' (first | exact trivial | refine Off.v ?_ | refine Off.k ?_ | refine Off.b ?_ | refine Off.n ?_ | refine Off.p ?_ | refine Off.s ?_ ?_ | omega)))), fun a w R => ex0 (R.val 3), fun a w R => ex1 (R.val 3), fun a w R => so_R (R.slot 4 rfl) (R.own rfl ow4) rfl (R.val 4), fun a w R => asg (R.val 5), trivial⟩ (fun act_ W1 I => ?_)
  rw [I.act [(6, .agg #[.int .u64 (L0 an), .int .u64 (L1 an), .int .u64 (L2 an), .int .u64 (L3 an), .int .u64 (L0 ad), .int .u64 (L1 ad), .int .u64 (L2 ad), .int .u64 (L3 ad)]), (7, .agg #[.int .u64 (L0 bn), .int .u64 (L1 bn), .int .u64 (L2 bn), .int .u64 (L3 bn), .int .u64 (L0 bd), .int .u64 (L1 bd), .int .u64 (L2 bd), .int .u64 (L3 bd)]), (8, .func (.func 31) #[] #[.pointer (some ⟨w.heap.size, 0, none⟩), .pointer (some ⟨(w.heap.size + 1), 0, none⟩)]), (9, .tuple #[.agg #[.int .u64 (L0 p), .int .u64 (L1 p), .int .u64 (L2 p), .int .u64 (L3 p), .int .u64 (L0 q), .int .u64 (L1 q), .int .u64 (L2 q), .int .u64 (L3 q)], .int .i64 er]), (10, .agg #[.int .u64 (L0 p), .int .u64 (L1 p), .int .u64 (L2 p), .int .u64 (L3 p), .int .u64 (L0 q), .int .u64 (L1 q), .int .u64 (L2 q), .int .u64 (L3 q)]), (11, .int .i64 er), (5, .int .i64 er)]
    ⟨I.val 0, I.val 1, I.val 2, I.val 3, I.val 4, I.val 5, I.val 7, trivial⟩ rfl]
  have sW1 : W0.heap.size ≤ W1.heap.size := I.below.size
  replace ow2 := I.keep ow2 (by repeat' (first | exact trivial | refine Off.v ?_ | refine Off.k ?_ | refine Off.b ?_ | refine Off.n ?_ | refine Off.p ?_ | refine Off.s ?_ ?_ | omega))
  replace ow3 := I.keep ow3 (by repeat' (first | exact trivial | refine Off.v ?_ | refine Off.k ?_ | refine Off.b ?_ | refine Off.n ?_ | refine Off.p ?_ | refine Off.s ?_ ?_ | omega))
  replace ow4 := I.sto 6 rfl rfl
  have hW1 : Below w.heap.size w W1 := hW0.trans I.below
  clear I
  simp only [List.foldl_cons, List.foldl_nil, List.setIfInBounds_toArray, List.set_cons_zero, List.set_cons_succ]
  obtain ⟨r4_, r4_1, r4_2⟩ := ow4.at_
  clear ow2 ow3 ow4
  go_wp2
  try simp only [setCell_drawn]
  refine bodyPost_ret (by first | (simp [results, Tryd.results10, go_sem, r4_]; done) | (simp [results, Tryd.results10, go_sem, r4_]; rfl)) rfl ⟨?_, hW1⟩
  rfl
set_option maxHeartbeats 16000000 in
set_option maxRecDepth 20000 in
theorem RDiv_of {an ad bn bd p q er : Int} {w : World} (HK0 : ∀ (W : World) (pa pb : Nat), Below w.heap.size w W → Own W pa 26 #[.int .u64 (L0 an), .int .u64 (L1 an), .int .u64 (L2 an), .int .u64 (L3 an), .int .u64 (L0 ad), .int .u64 (L1 ad), .int .u64 (L2 ad), .int .u64 (L3 ad)] → Own W pb 26 #[.int .u64 (L0 bn), .int .u64 (L1 bn), .int .u64 (L2 bn), .int .u64 (L3 bn), .int .u64 (L0 bd), .int .u64 (L1 bd), .int .u64 (L2 bd), .int .u64 (L3 bd)] → Calls Tryd.prog 30 #[.agg #[.int .u64 (L0 an), .int .u64 (L1 an), .int .u64 (L2 an), .int .u64 (L3 an), .int .u64 (L0 ad), .int .u64 (L1 ad), .int .u64 (L2 ad), .int .u64 (L3 ad)], .agg #[.int .u64 (L0 bn), .int .u64 (L1 bn), .int .u64 (L2 bn), .int .u64 (L3 bn), .int .u64 (L0 bd), .int .u64 (L1 bd), .int .u64 (L2 bd), .int .u64 (L3 bd)], .func (.func 37) #[] #[.pointer (some ⟨pa, 0, none⟩), .pointer (some ⟨pb, 0, none⟩)]] W fun e w' => e = .returned (.tuple #[.agg #[.int .u64 (L0 p), .int .u64 (L1 p), .int .u64 (L2 p), .int .u64 (L3 p), .int .u64 (L0 q), .int .u64 (L1 q), .int .u64 (L2 q), .int .u64 (L3 q)], .int .i64 er]) ∧ Below W.heap.size W w') : Calls Tryd.prog 14 #[.agg #[.int .u64 (L0 an), .int .u64 (L1 an), .int .u64 (L2 an), .int .u64 (L3 an), .int .u64 (L0 ad), .int .u64 (L1 ad), .int .u64 (L2 ad), .int .u64 (L3 ad)], .agg #[.int .u64 (L0 bn), .int .u64 (L1 bn), .int .u64 (L2 bn), .int .u64 (L3 bn), .int .u64 (L0 bd), .int .u64 (L1 bd), .int .u64 (L2 bd), .int .u64 (L3 bd)]] w fun e w' => e = .returned (.tuple #[.agg #[.int .u64 (L0 p), .int .u64 (L1 p), .int .u64 (L2 p), .int .u64 (L3 p), .int .u64 (L0 q), .int .u64 (L1 q), .int .u64 (L2 q), .int .u64 (L3 q)], .int .i64 er]) ∧ Below w.heap.size w w' := by
  have HK := Lib.hid HK0
  clear HK0
  go_enter Tryd.func14, Tryd.ntmps14
  go_upto_region 1 with fail
  go_name_world W0 hW0e
  have ow2 : Own W0 w.heap.size 26 #[.int .u64 (L0 an), .int .u64 (L1 an), .int .u64 (L2 an), .int .u64 (L3 an), .int .u64 (L0 ad), .int .u64 (L1 ad), .int .u64 (L2 ad), .int .u64 (L3 ad)] := hW0e ▸ (by repeat' (first | (with_reducible assumption) | (with_reducible refine Own.drawnN ?_ _) | (with_reducible refine Own.drawn ?_) | (with_reducible refine Own.made_at ?_; first | rfl | (simp; done) | omega | (simp; omega)) | (with_reducible refine Own.more ?_ _) | (with_reducible refine Own.apart ?_ ?_ _ _; rotate_left; first | omega | (simp; done) | (simp; omega)) | (refine Own.put ?_ _ _)))
  have ow3 : Own W0 (w.heap.size + 1) 26 #[.int .u64 (L0 bn), .int .u64 (L1 bn), .int .u64 (L2 bn), .int .u64 (L3 bn), .int .u64 (L0 bd), .int .u64 (L1 bd), .int .u64 (L2 bd), .int .u64 (L3 bd)] := hW0e ▸ (by repeat' (first | (with_reducible assumption) | (with_reducible refine Own.drawnN ?_ _) | (with_reducible refine Own.drawn ?_) | (with_reducible refine Own.made_at ?_; first | rfl | (simp; done) | omega | (simp; omega)) | (with_reducible refine Own.more ?_ _) | (with_reducible refine Own.apart ?_ ?_ _ _; rotate_left; first | omega | (simp; done) | (simp; omega)) | (refine Own.put ?_ _ _)))
  have ow4 : Own W0 (w.heap.size + 1 + 1) 26 #[.int .u64 0, .int .u64 0, .int .u64 0, .int .u64 0, .int .u64 0, .int .u64 0, .int .u64 0, .int .u64 0] := hW0e ▸ (by repeat' (first | (with_reducible assumption) | (with_reducible refine Own.drawnN ?_ _) | (with_reducible refine Own.drawn ?_) | (with_reducible refine Own.made_at ?_; first | rfl | (simp; done) | omega | (simp; omega)) | (with_reducible refine Own.more ?_ _) | (with_reducible refine Own.apart ?_ ?_ _ _; rotate_left; first | omega | (simp; done) | (simp; omega)) | (refine Own.put ?_ _ _)))
  have hW0 : Below w.heap.size w W0 := hW0e ▸ (by repeat' (first | (with_reducible exact Below.refl _ _) | (with_reducible assumption) | (with_reducible refine below_drewN ?_ _) | (with_reducible refine Below.drew ?_) | (with_reducible refine Below.alloc ?_ ?_ _) | (with_reducible refine Below.setCell ?_ ?_ _) | (with_reducible refine then_ ?_ (by with_reducible assumption) ?_) | (with_reducible exact Nat.le_refl _) | (with_reducible exact Nat.le_succ _) | (with_reducible exact Nat.le_succ_of_le (by with_reducible assumption)) | omega | (simp; done) | (simp; omega) | (exact Nat.le_succ _) | (exact Nat.le_succ_of_le (by with_reducible assumption))))
  clear hW0e
  have zown := ow4.in_
  go_upto_region 1 with fail
  refine region_memo_f (B := w.heap.size) (L := .val (.agg #[.int .u64 (L0 an), .int .u64 (L1 an), .int .u64 (L2 an), .int .u64 (L3 an), .int .u64 (L0 ad), .int .u64 (L1 ad), .int .u64 (L2 ad), .int .u64 (L3 ad)]) :: .val (.agg #[.int .u64 (L0 bn), .int .u64 (L1 bn), .int .u64 (L2 bn), .int .u64 (L3 bn), .int .u64 (L0 bd), .int .u64 (L1 bd), .int .u64 (L2 bd), .int .u64 (L3 bd)]) :: .val (.func (.func 37) #[] #[.pointer (some ⟨w.heap.size, 0, none⟩), .pointer (some ⟨(w.heap.size + 1), 0, none⟩)]) :: .val (.tuple #[.agg #[.int .u64 (L0 p), .int .u64 (L1 p), .int .u64 (L2 p), .int .u64 (L3 p), .int .u64 (L0 q), .int .u64 (L1 q), .int .u64 (L2 q), .int .u64 (L3 q)], .int .i64 er]) :: .val (.agg #[.int .u64 (L0 p), .int .u64 (L1 p), .int .u64 (L2 p), .int .u64 (L3 p), .int .u64 (L0 q), .int .u64 (L1 q), .int .u64 (L2 q), .int .u64 (L3 q)]) :: .val (.int .i64 er) :: .sto (w.heap.size + 1 + 1) 26 #[.int .u64 (L0 p), .int .u64 (L1 p), .int .u64 (L2 p), .int .u64 (L3 p), .int .u64 (L0 q), .int .u64 (L1 q), .int .u64 (L2 q), .int .u64 (L3 q)] :: .val (.int .i64 er) :: []) (by kernel_rfl) (hW0.size) (Olds.v (Olds.v (Olds.v (Olds.v (Olds.v (Olds.v (Olds.s (by omega) ow4.in_ (by repeat' (first | exact trivial | refine Off.v ?_ | refine Off.k ?_ | refine Off.b ?_ | refine Off.n ?_ | refine Off.p ?_ | refine Off.s ?_ ?_ | omega)) (Olds.v trivial))))))))
    ⟨fun a w R => ld_R (R.slot 2 rfl) (R.keep ow2 (by repeat' (first | exact trivial | refine Off.v ?_ | refine Off.k ?_ | refine Off.b ?_ | refine Off.n ?_ | refine Off.p ?_ | refine Off.s ?_ ?_ | omega))) rfl rfl rfl rfl rfl rfl rfl rfl, fun a w R => ld_R (R.slot 3 rfl) (R.keep ow3 (by repeat' (first | exact trivial | refine Off.v ?_ | refine Off.k ?_ | refine Off.b ?_ | refine Off.n ?_ | refine Off.p ?_ | refine Off.s ?_ ?_ | omega))) rfl rfl rfl rfl rfl rfl rfl rfl, fun a w R => mf2 (R.slot 2 rfl) (R.slot 3 rfl), fun a w R => cl_ttt (enter_at Tryd.func30) (R.val 0) (R.val 1) (R.val 2) (HK.out _ _ _ (hW0.trans R.below) (R.keep ow2 (by repeat' (first | exact trivial | refine Off.v ?_ | refine Off.k ?_ | refine Off.b ?_ | refine Off.n ?_ | refine Off.p ?_ | refine Off.s ?_ ?_ | omega))) (R.keep ow3 (by repeat' (first | exact trivial | refine Off.v ?_ | refine Off.k ?_ | refine Off.b ?_ | refine Off.n ?_ | refine Off.p ?_ | refine Off.s ?_ ?_ | omega)))), fun a w R => ex0 (R.val 3), fun a w R => ex1 (R.val 3), fun a w R => so_R (R.slot 4 rfl) (R.own rfl ow4) rfl (R.val 4), fun a w R => asg (R.val 5), trivial⟩ (fun act_ W1 I => ?_)
  rw [I.act [(6, .agg #[.int .u64 (L0 an), .int .u64 (L1 an), .int .u64 (L2 an), .int .u64 (L3 an), .int .u64 (L0 ad), .int .u64 (L1 ad), .int .u64 (L2 ad), .int .u64 (L3 ad)]), (7, .agg #[.int .u64 (L0 bn), .int .u64 (L1 bn), .int .u64 (L2 bn), .int .u64 (L3 bn), .int .u64 (L0 bd), .int .u64 (L1 bd), .int .u64 (L2 bd), .int .u64 (L3 bd)]), (8, .func (.func 37) #[] #[.pointer (some ⟨w.heap.size, 0, none⟩), .pointer (some ⟨(w.heap.size + 1), 0, none⟩)]), (9, .tuple #[.agg #[.int .u64 (L0 p), .int .u64 (L1 p), .int .u64 (L2 p), .int .u64 (L3 p), .int .u64 (L0 q), .int .u64 (L1 q), .int .u64 (L2 q), .int .u64 (L3 q)], .int .i64 er]), (10, .agg #[.int .u64 (L0 p), .int .u64 (L1 p), .int .u64 (L2 p), .int .u64 (L3 p), .int .u64 (L0 q), .int .u64 (L1 q), .int .u64 (L2 q), .int .u64 (L3 q)]), (11, .int .i64 er), (5, .int .i64 er)]
    ⟨I.val 0, I.val 1, I.val 2, I.val 3, I.val 4, I.val 5, I.val 7, trivial⟩ rfl]
  have sW1 : W0.heap.size ≤ W1.heap.size := I.below.size
  replace ow2 := I.keep ow2 (by repeat' (first | exact trivial | refine Off.v ?_ | refine Off.k ?_ | refine Off.b ?_ | refine Off.n ?_ | refine Off.p ?_ | refine Off.s ?_ ?_ | omega))
  replace ow3 := I.keep ow3 (by repeat' (first | exact trivial | refine Off.v ?_ | refine Off.k ?_ | refine Off.b ?_ | refine Off.n ?_ | refine Off.p ?_ | refine Off.s ?_ ?_ | omega))
  replace ow4 := I.sto 6 rfl rfl
  have hW1 : Below w.heap.size w W1 := hW0.trans I.below
  clear I
  simp only [List.foldl_cons, List.foldl_nil, List.setIfInBounds_toArray, List.set_cons_zero, List.set_cons_succ]
  obtain ⟨r4_, r4_1, r4_2⟩ := ow4.at_
  clear ow2 ow3 ow4
  go_wp2
  try simp only [setCell_drawn]
  refine bodyPost_ret (by first | (simp [results, Tryd.results14, go_sem, r4_]; done) | (simp [results, Tryd.results14, go_sem, r4_]; rfl)) rfl ⟨?_, hW1⟩
  rfl
end Go.Proofs.YtoondjildbanhaaDoor
end
section
namespace Go.Proofs.YtoondjildbanhaaDoor
open Go.ChangeShapes Go.WideShapes Go.ChangeAt Go.RowKit
set_option linter.unusedVariables false
set_option linter.unusedSimpArgs false

/-- what is answered of two fractions, where the steps fit (ok) and lead to n through d -/
def rkP (an ad bn bd : Int) (ok : Bool) (n d : Int) : Int := if decide (Rgt an ad) && decide (Rgt bn bd) && ok then mkP n d else 0
def rkQ (an ad bn bd : Int) (ok : Bool) (n d : Int) : Int := if decide (Rgt an ad) && decide (Rgt bn bd) && ok then mkQ n d else 0
def rkE (an ad bn bd : Int) (ok : Bool) (n d : Int) : Int := if decide (Rgt an ad) && decide (Rgt bn bd) then (if ok then mkR n d else 3) else 1
theorem rkV_eq {an ad bn bd N D EE n d : Int} {ok : Bool} (h1 : ok = true → EE = 0 ∧ N = n ∧ D = d) (h0 : ok = false → EE = 3) :
    rkV an ad bn bd N D EE = .tuple #[.agg #[.int .u64 (L0 (rkP an ad bn bd ok n d)), .int .u64 (L1 (rkP an ad bn bd ok n d)), .int .u64 (L2 (rkP an ad bn bd ok n d)), .int .u64 (L3 (rkP an ad bn bd ok n d)), .int .u64 (L0 (rkQ an ad bn bd ok n d)), .int .u64 (L1 (rkQ an ad bn bd ok n d)), .int .u64 (L2 (rkQ an ad bn bd ok n d)), .int .u64 (L3 (rkQ an ad bn bd ok n d))], .int .i64 (rkE an ad bn bd ok n d)] := by
  unfold rkV rkP rkQ rkE
  cases decide (Rgt an ad)
  · rfl
  · cases decide (Rgt bn bd)
    · rfl
    · cases ok
      · rw [h0 rfl]; rfl
      · obtain ⟨rfl, rfl, rfl⟩ := h1 rfl
        rfl
theorem rkP_fit (an ad bn bd : Int) (ok : Bool) (n d : Int) : Fit (rkP an ad bn bd ok n d) := by
  unfold rkP; split
  · exact mkP_fit n d
  · exact ⟨by decide, by decide⟩
theorem rkQ_fit (an ad bn bd : Int) (ok : Bool) (n d : Int) : Fit (rkQ an ad bn bd ok n d) := by
  unfold rkQ; split
  · exact mkQ_fit n d
  · exact ⟨by decide, by decide⟩
/-- a step of wide that fits or is refused -/
def StepW (f : Nat) (x y z r er : Int) : Prop := Fit r ∧ (∀ w : World, Calls Tryd.prog f #[.agg #[.int .u64 (L0 x), .int .u64 (L1 x), .int .u64 (L2 x), .int .u64 (L3 x)], .agg #[.int .u64 (L0 y), .int .u64 (L1 y), .int .u64 (L2 y), .int .u64 (L3 y)]] w fun e w' => e = .returned (.tuple #[.agg #[.int .u64 (L0 r), .int .u64 (L1 r), .int .u64 (L2 r), .int .u64 (L3 r)], .int .i64 er]) ∧ Below w.heap.size w w') ∧ (fb z = true → r = z ∧ er = 0) ∧ (fb z = false → er = 3)
theorem mulS (x y : Int) (hx : Fit x) (hy : Fit y) : ∃ r er, StepW 32 x y (x * y) r er := by
  by_cases h : Fit (x * y)
  · exact ⟨_, _, h, fun w => mul_fit x y hx hy h w, fun _ => ⟨rfl, rfl⟩, fun k => absurd h ((fb_iff _).1 k)⟩
  · exact ⟨0, 3, ⟨by decide, by decide⟩, fun w => mul_large x y hx hy h w, fun k => absurd ((fb_fit _).1 k) h, fun _ => rfl⟩
theorem addS (x y : Int) (hx : Fit x) (hy : Fit y) : ∃ r er, StepW 29 x y (x + y) r er := by
  by_cases h : Fit (x + y)
  · exact ⟨_, _, h, fun w => add_fit x y hx hy h w, fun _ => ⟨rfl, rfl⟩, fun k => absurd h ((fb_iff _).1 k)⟩
  · exact ⟨0, 3, ⟨by decide, by decide⟩, fun w => add_large x y hx hy h w, fun k => absurd ((fb_fit _).1 k) h, fun _ => rfl⟩
theorem subS (x y : Int) (hx : Fit x) (hy : Fit y) : ∃ r er, StepW 36 x y (x - y) r er := by
  by_cases h : Fit (x - y)
  · exact ⟨_, _, h, fun w => sub_fit x y hx hy h w, fun _ => ⟨rfl, rfl⟩, fun k => absurd h ((fb_iff _).1 k)⟩
  · exact ⟨0, 3, ⟨by decide, by decide⟩, fun w => sub_large x y hx hy h w, fun k => absurd ((fb_fit _).1 k) h, fun _ => rfl⟩
theorem fst_two {e1 e2 : Int} : (e1 = 0 ∧ e2 = 0 → fst_ (fst_ 0 e1) e2 = 0) ∧ (e1 = 3 ∨ e1 = 0 ∧ e2 = 3 → fst_ (fst_ 0 e1) e2 = 3) := by
  refine ⟨?_, ?_⟩
  · rintro ⟨rfl, rfl⟩; rfl
  · rintro (rfl | ⟨rfl, rfl⟩) <;> rfl
theorem fst_four {e1 e2 e3 e4 : Int} : (e1 = 0 ∧ e2 = 0 ∧ e3 = 0 ∧ e4 = 0 → fst_ (fst_ (fst_ (fst_ 0 e1) e2) e3) e4 = 0) ∧ (e1 = 3 ∨ e1 = 0 ∧ e2 = 3 ∨ e1 = 0 ∧ e2 = 0 ∧ e3 = 3 ∨ e1 = 0 ∧ e2 = 0 ∧ e3 = 0 ∧ e4 = 3 → fst_ (fst_ (fst_ (fst_ 0 e1) e2) e3) e4 = 3) := by
  refine ⟨?_, ?_⟩
  · rintro ⟨rfl, rfl, rfl, rfl⟩; rfl
  · rintro (rfl | ⟨rfl, rfl⟩ | ⟨rfl, rfl, rfl⟩ | ⟨rfl, rfl, rfl, rfl⟩) <;> rfl

section
variable {an ad bn bd : Int} (han : Fit an) (had : Fit ad) (hbn : Fit bn) (hbd : Fit bd)
include han had hbn hbd
theorem RMul_all (w : World) : Calls Tryd.prog 10 #[.agg #[.int .u64 (L0 an), .int .u64 (L1 an), .int .u64 (L2 an), .int .u64 (L3 an), .int .u64 (L0 ad), .int .u64 (L1 ad), .int .u64 (L2 ad), .int .u64 (L3 ad)], .agg #[.int .u64 (L0 bn), .int .u64 (L1 bn), .int .u64 (L2 bn), .int .u64 (L3 bn), .int .u64 (L0 bd), .int .u64 (L1 bd), .int .u64 (L2 bd), .int .u64 (L3 bd)]] w fun e w' => e = .returned (.tuple #[.agg #[.int .u64 (L0 (rkP an ad bn bd (fb (an * bn) && fb (ad * bd)) (an * bn) (ad * bd))), .int .u64 (L1 (rkP an ad bn bd (fb (an * bn) && fb (ad * bd)) (an * bn) (ad * bd))), .int .u64 (L2 (rkP an ad bn bd (fb (an * bn) && fb (ad * bd)) (an * bn) (ad * bd))), .int .u64 (L3 (rkP an ad bn bd (fb (an * bn) && fb (ad * bd)) (an * bn) (ad * bd))), .int .u64 (L0 (rkQ an ad bn bd (fb (an * bn) && fb (ad * bd)) (an * bn) (ad * bd))), .int .u64 (L1 (rkQ an ad bn bd (fb (an * bn) && fb (ad * bd)) (an * bn) (ad * bd))), .int .u64 (L2 (rkQ an ad bn bd (fb (an * bn) && fb (ad * bd)) (an * bn) (ad * bd))), .int .u64 (L3 (rkQ an ad bn bd (fb (an * bn) && fb (ad * bd)) (an * bn) (ad * bd)))], .int .i64 (rkE an ad bn bd (fb (an * bn) && fb (ad * bd)) (an * bn) (ad * bd))]) ∧ Below w.heap.size w w' := by
  obtain ⟨r1, e1, f1, c1, y1, n1⟩ := mulS an bn han hbn
  obtain ⟨r2, e2, f2, c2, y2, n2⟩ := mulS ad bd had hbd
  refine RMul_of (fun W pa pb hW oa ob => ?_)
  have h := rk_Mul han had hbn hbd f1 f2 (c0 := .pointer (some ⟨pa, 0, none⟩)) (c1 := .pointer (some ⟨pb, 0, none⟩)) (w := W) (EE := fst_ (fst_ 0 e1) e2) (fun W' p hb ho hp => mulc_any (doC_Mul c1) (doC_Mul c2) ho (oa.keep hb) (ob.keep hb) (by have := oa.in_; omega) (by have := ob.in_; omega))
  rw [rkV_eq (ok := fb (an * bn) && fb (ad * bd)) (n := an * bn) (d := ad * bd)] at h
  · exact h
  · intro hk
    simp only [Bool.and_eq_true] at hk
    exact ⟨fst_two.1 ⟨(y1 hk.1).2, (y2 hk.2).2⟩, (y1 hk.1).1, (y2 hk.2).1⟩
  · intro hk
    refine fst_two.2 ?_
    cases k1 : fb (an * bn)
    · exact .inl (n1 k1)
    · cases k2 : fb (ad * bd)
      · exact .inr ⟨(y1 k1).2, n2 k2⟩
      · rw [k1, k2] at hk; cases hk
theorem RDiv_all (w : World) : Calls Tryd.prog 14 #[.agg #[.int .u64 (L0 an), .int .u64 (L1 an), .int .u64 (L2 an), .int .u64 (L3 an), .int .u64 (L0 ad), .int .u64 (L1 ad), .int .u64 (L2 ad), .int .u64 (L3 ad)], .agg #[.int .u64 (L0 bn), .int .u64 (L1 bn), .int .u64 (L2 bn), .int .u64 (L3 bn), .int .u64 (L0 bd), .int .u64 (L1 bd), .int .u64 (L2 bd), .int .u64 (L3 bd)]] w fun e w' => e = .returned (.tuple #[.agg #[.int .u64 (L0 (rkP an ad bn bd (fb (an * bd) && fb (ad * bn)) (an * bd) (ad * bn))), .int .u64 (L1 (rkP an ad bn bd (fb (an * bd) && fb (ad * bn)) (an * bd) (ad * bn))), .int .u64 (L2 (rkP an ad bn bd (fb (an * bd) && fb (ad * bn)) (an * bd) (ad * bn))), .int .u64 (L3 (rkP an ad bn bd (fb (an * bd) && fb (ad * bn)) (an * bd) (ad * bn))), .int .u64 (L0 (rkQ an ad bn bd (fb (an * bd) && fb (ad * bn)) (an * bd) (ad * bn))), .int .u64 (L1 (rkQ an ad bn bd (fb (an * bd) && fb (ad * bn)) (an * bd) (ad * bn))), .int .u64 (L2 (rkQ an ad bn bd (fb (an * bd) && fb (ad * bn)) (an * bd) (ad * bn))), .int .u64 (L3 (rkQ an ad bn bd (fb (an * bd) && fb (ad * bn)) (an * bd) (ad * bn)))], .int .i64 (rkE an ad bn bd (fb (an * bd) && fb (ad * bn)) (an * bd) (ad * bn))]) ∧ Below w.heap.size w w' := by
  obtain ⟨r1, e1, f1, c1, y1, n1⟩ := mulS an bd han hbd
  obtain ⟨r2, e2, f2, c2, y2, n2⟩ := mulS ad bn had hbn
  refine RDiv_of (fun W pa pb hW oa ob => ?_)
  have h := rk_Div han had hbn hbd f1 f2 (c0 := .pointer (some ⟨pa, 0, none⟩)) (c1 := .pointer (some ⟨pb, 0, none⟩)) (w := W) (EE := fst_ (fst_ 0 e1) e2) (fun W' p hb ho hp => divc_any (doC_Mul c1) (doC_Mul c2) ho (oa.keep hb) (ob.keep hb) (by have := oa.in_; omega) (by have := ob.in_; omega))
  rw [rkV_eq (ok := fb (an * bd) && fb (ad * bn)) (n := an * bd) (d := ad * bn)] at h
  · exact h
  · intro hk
    simp only [Bool.and_eq_true] at hk
    exact ⟨fst_two.1 ⟨(y1 hk.1).2, (y2 hk.2).2⟩, (y1 hk.1).1, (y2 hk.2).1⟩
  · intro hk
    refine fst_two.2 ?_
    cases k1 : fb (an * bd)
    · exact .inl (n1 k1)
    · cases k2 : fb (ad * bn)
      · exact .inr ⟨(y1 k1).2, n2 k2⟩
      · rw [k1, k2] at hk; cases hk
theorem RAdd_all (w : World) : Calls Tryd.prog 9 #[.agg #[.int .u64 (L0 an), .int .u64 (L1 an), .int .u64 (L2 an), .int .u64 (L3 an), .int .u64 (L0 ad), .int .u64 (L1 ad), .int .u64 (L2 ad), .int .u64 (L3 ad)], .agg #[.int .u64 (L0 bn), .int .u64 (L1 bn), .int .u64 (L2 bn), .int .u64 (L3 bn), .int .u64 (L0 bd), .int .u64 (L1 bd), .int .u64 (L2 bd), .int .u64 (L3 bd)]] w fun e w' => e = .returned (.tuple #[.agg #[.int .u64 (L0 (rkP an ad bn bd (fb (an * bd) && fb (bn * ad) && fb (an * bd + bn * ad) && fb (ad * bd)) (an * bd + bn * ad) (ad * bd))), .int .u64 (L1 (rkP an ad bn bd (fb (an * bd) && fb (bn * ad) && fb (an * bd + bn * ad) && fb (ad * bd)) (an * bd + bn * ad) (ad * bd))), .int .u64 (L2 (rkP an ad bn bd (fb (an * bd) && fb (bn * ad) && fb (an * bd + bn * ad) && fb (ad * bd)) (an * bd + bn * ad) (ad * bd))), .int .u64 (L3 (rkP an ad bn bd (fb (an * bd) && fb (bn * ad) && fb (an * bd + bn * ad) && fb (ad * bd)) (an * bd + bn * ad) (ad * bd))), .int .u64 (L0 (rkQ an ad bn bd (fb (an * bd) && fb (bn * ad) && fb (an * bd + bn * ad) && fb (ad * bd)) (an * bd + bn * ad) (ad * bd))), .int .u64 (L1 (rkQ an ad bn bd (fb (an * bd) && fb (bn * ad) && fb (an * bd + bn * ad) && fb (ad * bd)) (an * bd + bn * ad) (ad * bd))), .int .u64 (L2 (rkQ an ad bn bd (fb (an * bd) && fb (bn * ad) && fb (an * bd + bn * ad) && fb (ad * bd)) (an * bd + bn * ad) (ad * bd))), .int .u64 (L3 (rkQ an ad bn bd (fb (an * bd) && fb (bn * ad) && fb (an * bd + bn * ad) && fb (ad * bd)) (an * bd + bn * ad) (ad * bd)))], .int .i64 (rkE an ad bn bd (fb (an * bd) && fb (bn * ad) && fb (an * bd + bn * ad) && fb (ad * bd)) (an * bd + bn * ad) (ad * bd))]) ∧ Below w.heap.size w w' := by
  obtain ⟨r1, e1, f1, c1, y1, n1⟩ := mulS an bd han hbd
  obtain ⟨r2, e2, f2, c2, y2, n2⟩ := mulS bn ad hbn had
  obtain ⟨r3, e3, f3, c3, y3, n3⟩ := addS r1 r2 f1 f2
  obtain ⟨r4, e4, f4, c4, y4, n4⟩ := mulS ad bd had hbd
  refine RAdd_of (fun w => tot_Add (fun W ph pa pb hW oh oa ob => ?_))
  have h := rk_total han had hbn hbd f3 f4 (c0 := .pointer (some ⟨ph, 0, none⟩)) (c1 := .pointer (some ⟨pa, 0, none⟩)) (c2 := .pointer (some ⟨pb, 0, none⟩)) (w := W) (EE := fst_ (fst_ (fst_ (fst_ 0 e1) e2) e3) e4) (fun W' p hb ho hp => totc_any (doC_Mul c1) (doC_Mul c2) (doC_Add c3) (doC_Mul c4) ho (oh.keep hb) (oa.keep hb) (ob.keep hb) (by have := oh.in_; omega) (by have := oa.in_; omega) (by have := ob.in_; omega))
  rw [rkV_eq (ok := (fb (an * bd) && fb (bn * ad) && fb (an * bd + bn * ad) && fb (ad * bd))) (n := an * bd + bn * ad) (d := ad * bd)] at h
  · exact h
  · intro hk
    simp only [Bool.and_eq_true] at hk
    obtain ⟨⟨⟨k1, k2⟩, k3⟩, k4⟩ := hk
    obtain ⟨rfl, h1⟩ := y1 k1
    obtain ⟨rfl, h2⟩ := y2 k2
    exact ⟨fst_four.1 ⟨h1, h2, (y3 k3).2, (y4 k4).2⟩, (y3 k3).1, (y4 k4).1⟩
  · intro hk
    refine fst_four.2 ?_
    cases k1 : fb (an * bd)
    · exact .inl (n1 k1)
    · obtain ⟨rfl, h1⟩ := y1 k1
      cases k2 : fb (bn * ad)
      · exact .inr (.inl ⟨h1, n2 k2⟩)
      · obtain ⟨rfl, h2⟩ := y2 k2
        cases k3 : fb (an * bd + bn * ad)
        · exact .inr (.inr (.inl ⟨h1, h2, n3 k3⟩))
        · cases k4 : fb (ad * bd)
          · exact .inr (.inr (.inr ⟨h1, h2, (y3 k3).2, n4 k4⟩))
          · rw [k1, k2, k3, k4] at hk; cases hk
theorem RSub_all (w : World) : Calls Tryd.prog 13 #[.agg #[.int .u64 (L0 an), .int .u64 (L1 an), .int .u64 (L2 an), .int .u64 (L3 an), .int .u64 (L0 ad), .int .u64 (L1 ad), .int .u64 (L2 ad), .int .u64 (L3 ad)], .agg #[.int .u64 (L0 bn), .int .u64 (L1 bn), .int .u64 (L2 bn), .int .u64 (L3 bn), .int .u64 (L0 bd), .int .u64 (L1 bd), .int .u64 (L2 bd), .int .u64 (L3 bd)]] w fun e w' => e = .returned (.tuple #[.agg #[.int .u64 (L0 (rkP an ad bn bd (fb (an * bd) && fb (bn * ad) && fb (an * bd - bn * ad) && fb (ad * bd)) (an * bd - bn * ad) (ad * bd))), .int .u64 (L1 (rkP an ad bn bd (fb (an * bd) && fb (bn * ad) && fb (an * bd - bn * ad) && fb (ad * bd)) (an * bd - bn * ad) (ad * bd))), .int .u64 (L2 (rkP an ad bn bd (fb (an * bd) && fb (bn * ad) && fb (an * bd - bn * ad) && fb (ad * bd)) (an * bd - bn * ad) (ad * bd))), .int .u64 (L3 (rkP an ad bn bd (fb (an * bd) && fb (bn * ad) && fb (an * bd - bn * ad) && fb (ad * bd)) (an * bd - bn * ad) (ad * bd))), .int .u64 (L0 (rkQ an ad bn bd (fb (an * bd) && fb (bn * ad) && fb (an * bd - bn * ad) && fb (ad * bd)) (an * bd - bn * ad) (ad * bd))), .int .u64 (L1 (rkQ an ad bn bd (fb (an * bd) && fb (bn * ad) && fb (an * bd - bn * ad) && fb (ad * bd)) (an * bd - bn * ad) (ad * bd))), .int .u64 (L2 (rkQ an ad bn bd (fb (an * bd) && fb (bn * ad) && fb (an * bd - bn * ad) && fb (ad * bd)) (an * bd - bn * ad) (ad * bd))), .int .u64 (L3 (rkQ an ad bn bd (fb (an * bd) && fb (bn * ad) && fb (an * bd - bn * ad) && fb (ad * bd)) (an * bd - bn * ad) (ad * bd)))], .int .i64 (rkE an ad bn bd (fb (an * bd) && fb (bn * ad) && fb (an * bd - bn * ad) && fb (ad * bd)) (an * bd - bn * ad) (ad * bd))]) ∧ Below w.heap.size w w' := by
  obtain ⟨r1, e1, f1, c1, y1, n1⟩ := mulS an bd han hbd
  obtain ⟨r2, e2, f2, c2, y2, n2⟩ := mulS bn ad hbn had
  obtain ⟨r3, e3, f3, c3, y3, n3⟩ := subS r1 r2 f1 f2
  obtain ⟨r4, e4, f4, c4, y4, n4⟩ := mulS ad bd had hbd
  refine RSub_of (fun w => tot_Sub (fun W ph pa pb hW oh oa ob => ?_))
  have h := rk_total han had hbn hbd f3 f4 (c0 := .pointer (some ⟨ph, 0, none⟩)) (c1 := .pointer (some ⟨pa, 0, none⟩)) (c2 := .pointer (some ⟨pb, 0, none⟩)) (w := W) (EE := fst_ (fst_ (fst_ (fst_ 0 e1) e2) e3) e4) (fun W' p hb ho hp => totc_any (doC_Mul c1) (doC_Mul c2) (doC_Sub c3) (doC_Mul c4) ho (oh.keep hb) (oa.keep hb) (ob.keep hb) (by have := oh.in_; omega) (by have := oa.in_; omega) (by have := ob.in_; omega))
  rw [rkV_eq (ok := (fb (an * bd) && fb (bn * ad) && fb (an * bd - bn * ad) && fb (ad * bd))) (n := an * bd - bn * ad) (d := ad * bd)] at h
  · exact h
  · intro hk
    simp only [Bool.and_eq_true] at hk
    obtain ⟨⟨⟨k1, k2⟩, k3⟩, k4⟩ := hk
    obtain ⟨rfl, h1⟩ := y1 k1
    obtain ⟨rfl, h2⟩ := y2 k2
    exact ⟨fst_four.1 ⟨h1, h2, (y3 k3).2, (y4 k4).2⟩, (y3 k3).1, (y4 k4).1⟩
  · intro hk
    refine fst_four.2 ?_
    cases k1 : fb (an * bd)
    · exact .inl (n1 k1)
    · obtain ⟨rfl, h1⟩ := y1 k1
      cases k2 : fb (bn * ad)
      · exact .inr (.inl ⟨h1, n2 k2⟩)
      · obtain ⟨rfl, h2⟩ := y2 k2
        cases k3 : fb (an * bd - bn * ad)
        · exact .inr (.inr (.inl ⟨h1, h2, n3 k3⟩))
        · cases k4 : fb (ad * bd)
          · exact .inr (.inr (.inr ⟨h1, h2, (y3 k3).2, n4 k4⟩))
          · rw [k1, k2, k3, k4] at hk; cases hk
end
end Go.Proofs.YtoondjildbanhaaDoor
end
section
namespace Go.Proofs.YtoondjildbanhaaDoor
open Go.ChangeShapes Go.WideShapes Go.ChangeAt Go.RowKit
set_option linter.unusedVariables false

theorem cmV_neg (an ad bn bd : Int) : cmV an ad bn bd = -cmV bn bd an ad := by
  unfold cmV cmpZ
  cases decide (Rgt an ad) <;> cases decide (Rgt bn bd) <;> simp
  by_cases h1 : an * bd < bn * ad
  · have : ¬ bn * ad < an * bd := by omega
    simp [h1, this]
  · by_cases h2 : bn * ad < an * bd <;> simp [h1, h2]
theorem cmV_self (an ad : Int) : cmV an ad an ad = 0 := by
  unfold cmV cmpZ; split <;> simp
theorem cmV_le (an ad bn bd : Int) : -1 ≤ cmV an ad bn bd ∧ cmV an ad bn bd ≤ 1 := by
  unfold cmV cmpZ; split <;> (try split) <;> (try split) <;> omega
theorem cmV_right {an ad bn bd : Int} (ha : decide (Rgt an ad) = true) (hb : decide (Rgt bn bd) = true) : cmV an ad bn bd = cmpZ (an * bd) (bn * ad) := by
  unfold cmV; rw [ha, hb]; rfl
theorem cmpZ_zero (a b : Int) : cmpZ a b = 0 ↔ a = b := by unfold cmpZ; split <;> (try split) <;> omega
theorem cmpZ_sg (a b : Int) : cmpZ a b = sg (a - b) := by unfold cmpZ sg; split <;> (try split) <;> (try split) <;> omega
theorem sgnZ_sg (z : Int) : sgnZ z = sg z := by unfold sgnZ sg; split <;> (try split) <;> (try split) <;> omega
theorem ord_eq {an ad bn bd : Int} (ha : decide (Rgt an ad) = true) (hb : decide (Rgt bn bd) = true) : decide (an = bn ∧ ad = bd) = (cmV an ad bn bd == 0) := by
  rw [cmV_right ha hb]
  have h := cmpZ_zero (an * bd) (bn * ad)
  by_cases e : an = bn ∧ ad = bd
  · obtain ⟨rfl, rfl⟩ := e
    simp [h.2 rfl]
  · rw [decide_eq_false e]
    symm
    rw [beq_eq_false_iff_ne]
    intro k
    exact e (rgt_uniq (of_decide_eq_true ha) (of_decide_eq_true hb) (h.1 k))
theorem ord_trans {an ad bn bd cn cd : Int} (ha : decide (Rgt an ad) = true) (hb : decide (Rgt bn bd) = true) (hc : decide (Rgt cn cd) = true) (h1 : decide (0 < cmV an ad bn bd) = false) (h2 : decide (0 < cmV bn bd cn cd) = false) : decide (cmV an ad cn cd ≤ 0) = true := by
  rw [cmV_right ha hb] at h1
  rw [cmV_right hb hc] at h2
  rw [cmV_right ha hc]
  have k1 := of_decide_eq_false h1
  have k2 := of_decide_eq_false h2
  have a0 := (of_decide_eq_true ha).pos
  have b0 := (of_decide_eq_true hb).pos
  have c0 := (of_decide_eq_true hc).pos
  have l1 : an * bd ≤ bn * ad := by unfold cmpZ at k1; split at k1 <;> (try split at k1) <;> omega
  have l2 : bn * cd ≤ cn * bd := by unfold cmpZ at k2; split at k2 <;> (try split at k2) <;> omega
  have l3 := le_trans_frac (a := an) (b := ad) (c := bn) (d := bd) (r := cn) (s := cd) a0 b0 c0 l1 l2
  refine decide_eq_true ?_
  unfold cmpZ; split <;> (try split) <;> omega
theorem mk_eq {n d : Int} (h : mkB n d = true) : mkP n d * d = n * mkQ n d ∧ d ≠ 0 := by
  have h1 := h
  unfold mkB at h1
  simp only [Bool.and_eq_true, Bool.not_eq_true', beq_eq_false_iff_ne] at h1
  have hd := h1.1
  unfold mkP mkQ
  rw [if_pos h, if_pos h]
  unfold mkN mkD
  refine ⟨?_, hd⟩
  by_cases hs : d < 0
  · rw [if_pos hs, if_pos hs]
    have := (red_rgt (n := n) (d := d) (g := -gz n d) hd (by rw [if_pos hs])).2
    rwa [Int.tdiv_neg, Int.tdiv_neg] at this
  · rw [if_neg hs, if_neg hs]
    exact (red_rgt (n := n) (d := d) (g := gz n d) hd (by rw [if_neg hs])).2
theorem rk_ok {an ad bn bd n d : Int} {ok : Bool} (ha : decide (Rgt an ad) = true) (hb : decide (Rgt bn bd) = true) (h : (rkE an ad bn bd ok n d == 0) = true) : ok = true ∧ mkB n d = true ∧ rkP an ad bn bd ok n d = mkP n d ∧ rkQ an ad bn bd ok n d = mkQ n d := by
  have h' : rkE an ad bn bd ok n d = 0 := by simpa using h
  unfold rkE at h'
  rw [ha, hb] at h'
  cases ok
  · simp at h'
  · simp at h'
    refine ⟨rfl, mkR_zero h', ?_, ?_⟩
    · unfold rkP; rw [ha, hb]; rfl
    · unfold rkQ; rw [ha, hb]; rfl
theorem ord_sign {an ad bn bd : Int} {ok : Bool} (ha : decide (Rgt an ad) = true) (hb : decide (Rgt bn bd) = true) (h : (rkE an ad bn bd ok (an * bd - bn * ad) (ad * bd) == 0) = true) :
    Rgt (rkP an ad bn bd ok (an * bd - bn * ad) (ad * bd)) (rkQ an ad bn bd ok (an * bd - bn * ad) (ad * bd)) ∧ sgnZ (rkP an ad bn bd ok (an * bd - bn * ad) (ad * bd)) = cmV an ad bn bd := by
  obtain ⟨_, hB, e1, e2⟩ := rk_ok ha hb h
  rw [e1, e2]
  have hr := mk_rgt hB
  refine ⟨hr, ?_⟩
  rw [cmV_right ha hb, cmpZ_sg, sgnZ_sg]
  exact sub_sign (of_decide_eq_true ha).pos (of_decide_eq_true hb).pos hr.pos (mk_eq hB).1
end Go.Proofs.YtoondjildbanhaaDoor
end
section
namespace Go.Proofs.YtoondjildbanhaaDoor
open Go.ChangeShapes Go.WideShapes Go.ChangeAt Go.RowKit
set_option linter.unusedVariables false
set_option linter.unusedSimpArgs false

theorem eq_Ratio {a b c d : Int} (ha : Fit a) (hc : Fit c) (hb : Fit b) (hd : Fit d) (w : World) : (Op.equalIn 10000 26 (.agg #[.int .u64 (L0 a), .int .u64 (L1 a), .int .u64 (L2 a), .int .u64 (L3 a), .int .u64 (L0 b), .int .u64 (L1 b), .int .u64 (L2 b), .int .u64 (L3 b)]) (.agg #[.int .u64 (L0 c), .int .u64 (L1 c), .int .u64 (L2 c), .int .u64 (L3 c), .int .u64 (L0 d), .int .u64 (L1 d), .int .u64 (L2 d), .int .u64 (L3 d)])).run Tryd.prog w = .ok (decide (a = c ∧ b = d)) w := by
  have e : ∀ x y, Fit x → Fit y → ∀ w, (Op.equalIn 9999 24 (.agg #[.int .u64 (L0 x), .int .u64 (L1 x), .int .u64 (L2 x), .int .u64 (L3 x)]) (.agg #[.int .u64 (L0 y), .int .u64 (L1 y), .int .u64 (L2 y), .int .u64 (L3 y)])).run Tryd.prog w = .ok (decide (x = y)) w := fun x y hx hy w => by
    rw [← dec_fit hx hy]
    have u3 := Tryd.underlying22
    have a3 := Tryd.isAgg22
    have z3 := Tryd.sizeOf22
    rw [show (9999 : Nat) = 9998 + 1 from rfl, Op.equalIn]
    simp only [Sem.run_bind, run_underlying Tryd.underlying24, Result.andThen_ok]
    simp only [Std.Legacy.Range.forIn_eq_forIn_range', Std.Legacy.Range.size, Nat.sub_zero, Nat.add_sub_cancel, Nat.div_one, List.range'_succ, List.range'_zero, List.forIn_cons, List.forIn_nil]
    go_simp
    generalize L0 x = x0; generalize L1 x = x1; generalize L2 x = x2; generalize L3 x = x3
    generalize L0 y = y0; generalize L1 y = y1; generalize L2 y = y2; generalize L3 y = y3
    by_cases h0 : x0 = y0 <;> by_cases h1 : x1 = y1 <;> by_cases h2 : x2 = y2 <;> by_cases h3 : x3 = y3 <;> simp [h0, h1, h2, h3]
  have e1 := e a c ha hc
  have e2 := e b d hb hd
  rw [show (10000 : Nat) = 9999 + 1 from rfl, run_equalIn_struct w 9999 26 _ _ (by simp [Program.fieldsOf, Tryd.underlying26]) (by kernel_rfl)]
  simp only [Program.fieldsOf, Tryd.underlying26]
  generalize 9999 = D at *
  obtain ⟨x, hx⟩ : ∃ x, decide (a = c) = x := ⟨_, rfl⟩
  obtain ⟨y, hy⟩ : ∃ y, decide (b = d) = y := ⟨_, rfl⟩
  have ht : decide (a = c ∧ b = d) = (x && y) := by rw [← hx, ← hy]; simp
  simp only [hx] at e1
  simp only [hy] at e2
  rw [ht]
  clear hx hy ht e ha hb hc hd
  cases x <;> cases y <;> simp [Op.eqFields, go_sem, part, e1, e2]
end Go.Proofs.YtoondjildbanhaaDoor
end
