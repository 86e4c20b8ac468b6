
/- croftref04.Do of two right fractions: quotients; written by gen_do.py. -/
import Derived.Test.YtigcbgehnlilaaaDoorDo2
namespace Go.Proofs.YtigcbgehnlilaaaDoor
open Go.ChangeShapes Go.WideShapes Go.ChangeAt Go.RowKit
set_option linter.unusedVariables false
set_option linter.unusedSimpArgs false

set_option maxHeartbeats 64000000 in
set_option maxRecDepth 20000 in
theorem do_3z {an ad bn bd : Int} (han : Fit an) (had : Fit ad) (hbn : Fit bn) (hbd : Fit bd) (ra : decide (Rgt an ad) = true) (rb : decide (Rgt bn bd) = true) (hz : bn = 0) (VV : Value) (hV : VV = .tuple #[.agg #[.int .u64 (L0 0), .int .u64 (L1 0), .int .u64 (L2 0), .int .u64 (L3 0), .int .u64 (L0 0), .int .u64 (L1 0), .int .u64 (L2 0), .int .u64 (L3 0)], .int .i64 4]) (w : World) : Calls Tryd.prog 13 #[.int .i64 3, .agg #[.int .u64 (L0 an), .int .u64 (L1 an), .int .u64 (L2 an), .int .u64 (L3 an), .int .u64 (L0 ad), .int .u64 (L1 ad), .int .u64 (L2 ad), .int .u64 (L3 ad)], .agg #[.int .u64 (L0 bn), .int .u64 (L1 bn), .int .u64 (L2 bn), .int .u64 (L3 bn), .int .u64 (L0 bd), .int .u64 (L1 bd), .int .u64 (L2 bd), .int .u64 (L3 bd)]] w fun e w' => e = .returned VV ∧ Below w.heap.size w w' := by
  have EV := Lib.hid hV
  clear hV
  have HZ := Lib.hid hz
  clear hz
  have F_1 := Lib.hid (fun w => of_anyz an han w)
  have F_2 := Lib.hid (fun w => of_anyz ad had w)
  have F_3 := Lib.hid (fun w => of_anyz bn hbn w)
  have F_4 := Lib.hid (fun w => of_anyz bd hbd w)
  have RA := Lib.hid (fun w => ra ▸ rright_any han had w)
  have RB := Lib.hid (fun w => rb ▸ rright_any hbn hbd w)
  clear ra rb
  go_enter Tryd.func13, Tryd.ntmps13
  go_upto_region 1 with fail
  go_name_world W0 hW0
  have OA : Own W0 w.heap.size 34 #[.int .u64 (L0 an), .int .u64 (L1 an), .int .u64 (L2 an), .int .u64 (L3 an), .int .u64 (L0 ad), .int .u64 (L1 ad), .int .u64 (L2 ad), .int .u64 (L3 ad)] := hW0 ▸ (by repeat' (first | (with_reducible assumption) | (with_reducible refine Own.drawnN ?_ _) | (with_reducible refine Own.drawn ?_) | (with_reducible refine Own.made_at ?_; first | rfl | (simp; done) | omega | (simp; omega)) | (with_reducible refine Own.more ?_ _) | (with_reducible refine Own.apart ?_ ?_ _ _; rotate_left; first | omega | (simp; done) | (simp; omega)) | (refine Own.put ?_ _ _)))
  have OB : Own W0 (w.heap.size + 1) 34 #[.int .u64 (L0 bn), .int .u64 (L1 bn), .int .u64 (L2 bn), .int .u64 (L3 bn), .int .u64 (L0 bd), .int .u64 (L1 bd), .int .u64 (L2 bd), .int .u64 (L3 bd)] := hW0 ▸ (by repeat' (first | (with_reducible assumption) | (with_reducible refine Own.drawnN ?_ _) | (with_reducible refine Own.drawn ?_) | (with_reducible refine Own.made_at ?_; first | rfl | (simp; done) | omega | (simp; omega)) | (with_reducible refine Own.more ?_ _) | (with_reducible refine Own.apart ?_ ?_ _ _; rotate_left; first | omega | (simp; done) | (simp; omega)) | (refine Own.put ?_ _ _)))
  have OR : Own W0 (w.heap.size + 2) 34 #[.int .u64 0, .int .u64 0, .int .u64 0, .int .u64 0, .int .u64 0, .int .u64 0, .int .u64 0, .int .u64 0] := hW0 ▸ (by repeat' (first | (with_reducible assumption) | (with_reducible refine Own.drawnN ?_ _) | (with_reducible refine Own.drawn ?_) | (with_reducible refine Own.made_at ?_; first | rfl | (simp; done) | omega | (simp; omega)) | (with_reducible refine Own.more ?_ _) | (with_reducible refine Own.apart ?_ ?_ _ _; rotate_left; first | omega | (simp; done) | (simp; omega)) | (refine Own.put ?_ _ _)))
  have hB : Below w.heap.size w W0 := hW0 ▸ (by repeat' (first | (with_reducible exact Below.refl _ _) | (with_reducible assumption) | (with_reducible refine below_drewN ?_ _) | (with_reducible refine Below.drew ?_) | (with_reducible refine Below.alloc ?_ ?_ _) | (with_reducible refine Below.setCell ?_ ?_ _) | (with_reducible refine then_ ?_ (by with_reducible assumption) ?_) | (with_reducible exact Nat.le_refl _) | (with_reducible exact Nat.le_succ _) | (with_reducible exact Nat.le_succ_of_le (by with_reducible assumption)) | omega | (simp; done) | (simp; omega) | (exact Nat.le_succ _) | (exact Nat.le_succ_of_le (by with_reducible assumption))))
  clear hW0
  have z0 := OR.in_
  obtain ⟨P1, P2, P3⟩ := OA.at_
  obtain ⟨Q1, Q2, Q3⟩ := OB.at_
  go_upto_region 3 with (first
    | (go_at_call 15; with_reducible refine (RA.out _).mono ?_; rintro e w1 ⟨rfl, hb1⟩; have HB1 := Lib.hid hb1; clear hb1 P1 P2 P3 Q1 Q2 Q3; obtain ⟨Q1, Q2, Q3⟩ := (OB.keep HB1.out).at_)
    | (go_at_call 15; with_reducible refine (RB.out _).mono ?_; rintro e w2 ⟨rfl, hb2⟩; have HB2 := Lib.hid hb2; clear hb2 Q1 Q2 Q3))
  replace OA := (OA.keep HB1.out).keep HB2.out
  replace OB := (OB.keep HB1.out).keep HB2.out
  replace OR := (OR.keep HB1.out).keep HB2.out
  replace hB := then_ (then_ hB HB1.out hB.size) HB2.out (Nat.le_trans hB.size HB1.out.size)
  have z2 := OR.in_
  clear HB1 HB2 z0 RA RB
  have zi1_OA := OA.in_
  have zi1_OB := OB.in_
  have zi1_OR := OR.in_
  go_upto_region 3 with fail
  refine region_memon (L := [.val (.pointer (some ⟨w.heap.size, 0, none⟩)), .val (.agg #[.int .u64 (L0 an), .int .u64 (L1 an), .int .u64 (L2 an), .int .u64 (L3 an)]), .num (fun w v => NumP w (fun _ => True) v an), .val (.pointer (some ⟨w.heap.size, 4, none⟩)), .val (.agg #[.int .u64 (L0 ad), .int .u64 (L1 ad), .int .u64 (L2 ad), .int .u64 (L3 ad)]), .num (fun w v => NumP w (fun _ => True) v ad), .val (.pointer (some ⟨w.heap.size + 1, 0, none⟩)), .val (.agg #[.int .u64 (L0 bn), .int .u64 (L1 bn), .int .u64 (L2 bn), .int .u64 (L3 bn)]), .num (fun w v => NumP w (fun _ => True) v bn), .val (.pointer (some ⟨w.heap.size + 1, 4, none⟩)), .val (.agg #[.int .u64 (L0 bd), .int .u64 (L1 bd), .int .u64 (L2 bd), .int .u64 (L3 bd)]), .num (fun w v => NumP w (fun _ => True) v bd), .cell 59 #[.bool false, .slice none 0 0], .cell 59 #[.bool false, .slice none 0 0], .cell 59 #[.bool false, .slice none 0 0], .cell 59 #[.bool false, .slice none 0 0]]) (by kernel_rfl) (by kernel_rfl) ⟨fun _ _ _ h hb => NumP.keep h hb, ⟨fun _ _ _ h hb => NumP.keep h hb, ⟨fun _ _ _ h hb => NumP.keep h hb, ⟨fun _ _ _ h hb => NumP.keep h hb, trivial⟩⟩⟩⟩
    ⟨fun a w R => sv_ (fa_Q_0 (R.slot 4 rfl)), fun a w R => sv_ (ld_A (R.val 0) (OA.drawn.keep R.below) rfl rfl rfl rfl), fun a w R => cn_t (enter_at Tryd.func35) (R.val 1) (F_1.out _), fun a w R => sv_ (fa_Q_1 (R.slot 4 rfl)), fun a w R => sv_ (ld_A (R.val 3) (OA.drawn.keep R.below) rfl rfl rfl rfl), fun a w R => cn_t (enter_at Tryd.func35) (R.val 4) (F_2.out _), fun a w R => sv_ (fa_Q_0 (R.slot 5 rfl)), fun a w R => sv_ (ld_A (R.val 6) (OB.drawn.keep R.below) rfl rfl rfl rfl), fun a w R => cn_t (enter_at Tryd.func35) (R.val 7) (F_3.out _), fun a w R => sv_ (fa_Q_1 (R.slot 5 rfl)), fun a w R => sv_ (ld_A (R.val 9) (OB.drawn.keep R.below) rfl rfl rfl rfl), fun a w R => cn_t (enter_at Tryd.func35) (R.val 10) (F_4.out _), fun a w R => (by show _ = _; simp [go_sem, execOp]), fun a w R => (by show _ = _; simp [go_sem, execOp]), fun a w R => (by show _ = _; simp [go_sem, execOp]), fun a w R => (by show _ = _; simp [go_sem, execOp]), trivial⟩ (fun act_ V1 I => ?_)
  obtain ⟨v_p, ev29, hn⟩ := I.num 2 (ltb rfl)
  obtain ⟨s_p, a_p, l_p, c_p, rfl⟩ := hn.shape
  have N_p := hn
  clear hn
  obtain ⟨v_q, ev32, hn⟩ := I.num 5 (ltb rfl)
  obtain ⟨s_q, a_q, l_q, c_q, rfl⟩ := hn.shape
  have N_q := hn
  clear hn
  obtain ⟨v_r, ev35, hn⟩ := I.num 8 (ltb rfl)
  obtain ⟨s_r, a_r, l_r, c_r, rfl⟩ := hn.shape
  have N_r := hn
  clear hn
  obtain ⟨v_s, ev38, hn⟩ := I.num 11 (ltb rfl)
  obtain ⟨s_s, a_s, l_s, c_s, rfl⟩ := hn.shape
  have N_s := hn
  clear hn
  obtain ⟨g8, eg8, lg8, O_8⟩ := I.cell 12 (ltb rfl)
  obtain ⟨g9, eg9, lg9, O_9⟩ := I.cell 13 (ltb rfl)
  obtain ⟨g10, eg10, lg10, O_10⟩ := I.cell 14 (ltb rfl)
  obtain ⟨g11, eg11, lg11, O_11⟩ := I.cell 15 (ltb rfl)
  have ng8_9 := I.apart2 12 13 (ltb rfl) (ltb rfl) (by decide) eg8 eg9
  have ng8_10 := I.apart2 12 14 (ltb rfl) (ltb rfl) (by decide) eg8 eg10
  have ng8_11 := I.apart2 12 15 (ltb rfl) (ltb rfl) (by decide) eg8 eg11
  have ng9_10 := I.apart2 13 14 (ltb rfl) (ltb rfl) (by decide) eg9 eg10
  have ng9_11 := I.apart2 13 15 (ltb rfl) (ltb rfl) (by decide) eg9 eg11
  have ng10_11 := I.apart2 14 15 (ltb rfl) (ltb rfl) (by decide) eg10 eg11
  rw [I.act [(27, (.pointer (some ⟨w.heap.size, 0, none⟩))), (28, (.agg #[.int .u64 (L0 an), .int .u64 (L1 an), .int .u64 (L2 an), .int .u64 (L3 an)])), (29, .agg #[.bool s_p, .slice a_p l_p c_p]), (30, (.pointer (some ⟨w.heap.size, 4, none⟩))), (31, (.agg #[.int .u64 (L0 ad), .int .u64 (L1 ad), .int .u64 (L2 ad), .int .u64 (L3 ad)])), (32, .agg #[.bool s_q, .slice a_q l_q c_q]), (33, (.pointer (some ⟨w.heap.size + 1, 0, none⟩))), (34, (.agg #[.int .u64 (L0 bn), .int .u64 (L1 bn), .int .u64 (L2 bn), .int .u64 (L3 bn)])), (35, .agg #[.bool s_r, .slice a_r l_r c_r]), (36, (.pointer (some ⟨w.heap.size + 1, 4, none⟩))), (37, (.agg #[.int .u64 (L0 bd), .int .u64 (L1 bd), .int .u64 (L2 bd), .int .u64 (L3 bd)])), (38, .agg #[.bool s_s, .slice a_s l_s c_s]), (8, .pointer (some ⟨g8, 0, none⟩)), (9, .pointer (some ⟨g9, 0, none⟩)), (10, .pointer (some ⟨g10, 0, none⟩)), (11, .pointer (some ⟨g11, 0, none⟩))]
    ⟨I.val 0 (ltb rfl), I.val 1 (ltb rfl), ev29, I.val 3 (ltb rfl), I.val 4 (ltb rfl), ev32, I.val 6 (ltb rfl), I.val 7 (ltb rfl), ev35, I.val 9 (ltb rfl), I.val 10 (ltb rfl), ev38, eg8, eg9, eg10, eg11, trivial⟩ rfl]
  have hb_ : Below w2.drew.heap.size w2.drew V1 := I.below
  change w2.heap.size ≤ g8 at lg8
  change w2.heap.size ≤ g9 at lg9
  change w2.heap.size ≤ g10 at lg10
  change w2.heap.size ≤ g11 at lg11
  clear I eg8 eg9 eg10 eg11 ev29 ev32 ev35 ev38
  simp only [List.foldl_cons, List.foldl_nil, List.setIfInBounds_toArray, List.set_cons_zero, List.set_cons_succ]
  replace OA := OA.drawn.keep hb_
  replace OB := OB.drawn.keep hb_
  replace OR := OR.drawn.keep hb_
  replace hB := then_ hB.drew hb_ hB.size
  clear hb_
  have M_p := Lib.hid N_p
  clear N_p
  have M_q := Lib.hid N_q
  clear N_q
  have M_r := Lib.hid N_r
  clear N_r
  have M_s := Lib.hid N_s
  clear N_s
  refine tree_one (i := 16) (by kernel_rfl) rfl ⟨_, rfl, fun K hK => ?_⟩
  obtain ⟨P1, P2, P3⟩ := O_8.at_
  go_wp2
  clear P1 P2 P3
  refine hK _ _ trivial ?_
  clear hK K
  obtain ⟨V2, hX⟩ : ∃ X, (V1.setCell ⟨g8, 0, none⟩ (.bool s_p)).setCell ⟨g8, 1, none⟩ (.slice a_p l_p c_p) = X := ⟨_, rfl⟩
  rw [hX]
  have M_p_ := Lib.hid (hX ▸ (((M_p.out.aside O_8).put (p := g8) (i := 0) (by rintro ⟨_, h⟩; exact h rfl) (.bool s_p)).put (p := g8) (i := 1) (by rintro ⟨_, h⟩; exact h rfl) (.slice a_p l_p c_p)).mono (S' := fun _ => True) (fun _ _ _ => trivial))
  have M_q_ := Lib.hid (hX ▸ (((M_q.out.aside O_8).put (p := g8) (i := 0) (by rintro ⟨_, h⟩; exact h rfl) (.bool s_p)).put (p := g8) (i := 1) (by rintro ⟨_, h⟩; exact h rfl) (.slice a_p l_p c_p)).mono (S' := fun _ => True) (fun _ _ _ => trivial))
  have M_r_ := Lib.hid (hX ▸ (((M_r.out.aside O_8).put (p := g8) (i := 0) (by rintro ⟨_, h⟩; exact h rfl) (.bool s_p)).put (p := g8) (i := 1) (by rintro ⟨_, h⟩; exact h rfl) (.slice a_p l_p c_p)).mono (S' := fun _ => True) (fun _ _ _ => trivial))
  have M_s_ := Lib.hid (hX ▸ (((M_s.out.aside O_8).put (p := g8) (i := 0) (by rintro ⟨_, h⟩; exact h rfl) (.bool s_p)).put (p := g8) (i := 1) (by rintro ⟨_, h⟩; exact h rfl) (.slice a_p l_p c_p)).mono (S' := fun _ => True) (fun _ _ _ => trivial))
  have OA_ := hX ▸ ((OA.apart (q := g8) (by omega) 0 (.bool s_p)).apart (q := g8) (by omega) 1 (.slice a_p l_p c_p))
  have OB_ := hX ▸ ((OB.apart (q := g8) (by omega) 0 (.bool s_p)).apart (q := g8) (by omega) 1 (.slice a_p l_p c_p))
  have OR_ := hX ▸ ((OR.apart (q := g8) (by omega) 0 (.bool s_p)).apart (q := g8) (by omega) 1 (.slice a_p l_p c_p))
  have O_8_ : Own V2 g8 59 #[.bool s_p, .slice a_p l_p c_p] := hX ▸ (((O_8.put 0 _).put 1 _).as rfl)
  have O_9_ := hX ▸ ((O_9.apart (q := g8) (by omega) 0 (.bool s_p)).apart (q := g8) (by omega) 1 (.slice a_p l_p c_p))
  have O_10_ := hX ▸ ((O_10.apart (q := g8) (by omega) 0 (.bool s_p)).apart (q := g8) (by omega) 1 (.slice a_p l_p c_p))
  have O_11_ := hX ▸ ((O_11.apart (q := g8) (by omega) 0 (.bool s_p)).apart (q := g8) (by omega) 1 (.slice a_p l_p c_p))
  have hB_ : Below w.heap.size w V2 := hX ▸ ((hB.setCell (by show w.heap.size ≤ g8; omega) _).setCell (by show w.heap.size ≤ g8; omega) _)
  clear hX M_p M_q M_r M_s OA OB OR O_8 O_9 O_10 O_11 hB
  have M_p := M_p_
  have M_q := M_q_
  have M_r := M_r_
  have M_s := M_s_
  have OA := OA_
  have OB := OB_
  have OR := OR_
  have O_8 := O_8_
  have O_9 := O_9_
  have O_10 := O_10_
  have O_11 := O_11_
  have hB := hB_
  clear M_p_ M_q_ M_r_ M_s_ OA_ OB_ OR_ O_8_ O_9_ O_10_ O_11_ hB_
  refine tree_one (i := 17) (by kernel_rfl) rfl ⟨_, rfl, fun K hK => ?_⟩
  obtain ⟨P1, P2, P3⟩ := O_9.at_
  go_wp2
  clear P1 P2 P3
  refine hK _ _ trivial ?_
  clear hK K
  obtain ⟨V3, hX⟩ : ∃ X, (V2.setCell ⟨g9, 0, none⟩ (.bool s_q)).setCell ⟨g9, 1, none⟩ (.slice a_q l_q c_q) = X := ⟨_, rfl⟩
  rw [hX]
  have M_p_ := Lib.hid (hX ▸ (((M_p.out.aside O_9).put (p := g9) (i := 0) (by rintro ⟨_, h⟩; exact h rfl) (.bool s_q)).put (p := g9) (i := 1) (by rintro ⟨_, h⟩; exact h rfl) (.slice a_q l_q c_q)).mono (S' := fun _ => True) (fun _ _ _ => trivial))
  have M_q_ := Lib.hid (hX ▸ (((M_q.out.aside O_9).put (p := g9) (i := 0) (by rintro ⟨_, h⟩; exact h rfl) (.bool s_q)).put (p := g9) (i := 1) (by rintro ⟨_, h⟩; exact h rfl) (.slice a_q l_q c_q)).mono (S' := fun _ => True) (fun _ _ _ => trivial))
  have M_r_ := Lib.hid (hX ▸ (((M_r.out.aside O_9).put (p := g9) (i := 0) (by rintro ⟨_, h⟩; exact h rfl) (.bool s_q)).put (p := g9) (i := 1) (by rintro ⟨_, h⟩; exact h rfl) (.slice a_q l_q c_q)).mono (S' := fun _ => True) (fun _ _ _ => trivial))
  have M_s_ := Lib.hid (hX ▸ (((M_s.out.aside O_9).put (p := g9) (i := 0) (by rintro ⟨_, h⟩; exact h rfl) (.bool s_q)).put (p := g9) (i := 1) (by rintro ⟨_, h⟩; exact h rfl) (.slice a_q l_q c_q)).mono (S' := fun _ => True) (fun _ _ _ => trivial))
  have OA_ := hX ▸ ((OA.apart (q := g9) (by omega) 0 (.bool s_q)).apart (q := g9) (by omega) 1 (.slice a_q l_q c_q))
  have OB_ := hX ▸ ((OB.apart (q := g9) (by omega) 0 (.bool s_q)).apart (q := g9) (by omega) 1 (.slice a_q l_q c_q))
  have OR_ := hX ▸ ((OR.apart (q := g9) (by omega) 0 (.bool s_q)).apart (q := g9) (by omega) 1 (.slice a_q l_q c_q))
  have O_8_ := hX ▸ ((O_8.apart (q := g9) (by omega) 0 (.bool s_q)).apart (q := g9) (by omega) 1 (.slice a_q l_q c_q))
  have O_9_ : Own V3 g9 59 #[.bool s_q, .slice a_q l_q c_q] := hX ▸ (((O_9.put 0 _).put 1 _).as rfl)
  have O_10_ := hX ▸ ((O_10.apart (q := g9) (by omega) 0 (.bool s_q)).apart (q := g9) (by omega) 1 (.slice a_q l_q c_q))
  have O_11_ := hX ▸ ((O_11.apart (q := g9) (by omega) 0 (.bool s_q)).apart (q := g9) (by omega) 1 (.slice a_q l_q c_q))
  have hB_ : Below w.heap.size w V3 := hX ▸ ((hB.setCell (by show w.heap.size ≤ g9; omega) _).setCell (by show w.heap.size ≤ g9; omega) _)
  clear hX M_p M_q M_r M_s OA OB OR O_8 O_9 O_10 O_11 hB
  have M_p := M_p_
  have M_q := M_q_
  have M_r := M_r_
  have M_s := M_s_
  have OA := OA_
  have OB := OB_
  have OR := OR_
  have O_8 := O_8_
  have O_9 := O_9_
  have O_10 := O_10_
  have O_11 := O_11_
  have hB := hB_
  clear M_p_ M_q_ M_r_ M_s_ OA_ OB_ OR_ O_8_ O_9_ O_10_ O_11_ hB_
  refine tree_one (i := 18) (by kernel_rfl) rfl ⟨_, rfl, fun K hK => ?_⟩
  obtain ⟨P1, P2, P3⟩ := O_10.at_
  go_wp2
  clear P1 P2 P3
  refine hK _ _ trivial ?_
  clear hK K
  obtain ⟨V4, hX⟩ : ∃ X, (V3.setCell ⟨g10, 0, none⟩ (.bool s_r)).setCell ⟨g10, 1, none⟩ (.slice a_r l_r c_r) = X := ⟨_, rfl⟩
  rw [hX]
  have M_p_ := Lib.hid (hX ▸ (((M_p.out.aside O_10).put (p := g10) (i := 0) (by rintro ⟨_, h⟩; exact h rfl) (.bool s_r)).put (p := g10) (i := 1) (by rintro ⟨_, h⟩; exact h rfl) (.slice a_r l_r c_r)).mono (S' := fun _ => True) (fun _ _ _ => trivial))
  have M_q_ := Lib.hid (hX ▸ (((M_q.out.aside O_10).put (p := g10) (i := 0) (by rintro ⟨_, h⟩; exact h rfl) (.bool s_r)).put (p := g10) (i := 1) (by rintro ⟨_, h⟩; exact h rfl) (.slice a_r l_r c_r)).mono (S' := fun _ => True) (fun _ _ _ => trivial))
  have M_r_ := Lib.hid (hX ▸ (((M_r.out.aside O_10).put (p := g10) (i := 0) (by rintro ⟨_, h⟩; exact h rfl) (.bool s_r)).put (p := g10) (i := 1) (by rintro ⟨_, h⟩; exact h rfl) (.slice a_r l_r c_r)).mono (S' := fun _ => True) (fun _ _ _ => trivial))
  have M_s_ := Lib.hid (hX ▸ (((M_s.out.aside O_10).put (p := g10) (i := 0) (by rintro ⟨_, h⟩; exact h rfl) (.bool s_r)).put (p := g10) (i := 1) (by rintro ⟨_, h⟩; exact h rfl) (.slice a_r l_r c_r)).mono (S' := fun _ => True) (fun _ _ _ => trivial))
  have OA_ := hX ▸ ((OA.apart (q := g10) (by omega) 0 (.bool s_r)).apart (q := g10) (by omega) 1 (.slice a_r l_r c_r))
  have OB_ := hX ▸ ((OB.apart (q := g10) (by omega) 0 (.bool s_r)).apart (q := g10) (by omega) 1 (.slice a_r l_r c_r))
  have OR_ := hX ▸ ((OR.apart (q := g10) (by omega) 0 (.bool s_r)).apart (q := g10) (by omega) 1 (.slice a_r l_r c_r))
  have O_8_ := hX ▸ ((O_8.apart (q := g10) (by omega) 0 (.bool s_r)).apart (q := g10) (by omega) 1 (.slice a_r l_r c_r))
  have O_9_ := hX ▸ ((O_9.apart (q := g10) (by omega) 0 (.bool s_r)).apart (q := g10) (by omega) 1 (.slice a_r l_r c_r))
  have O_10_ : Own V4 g10 59 #[.bool s_r, .slice a_r l_r c_r] := hX ▸ (((O_10.put 0 _).put 1 _).as rfl)
  have O_11_ := hX ▸ ((O_11.apart (q := g10) (by omega) 0 (.bool s_r)).apart (q := g10) (by omega) 1 (.slice a_r l_r c_r))
  have hB_ : Below w.heap.size w V4 := hX ▸ ((hB.setCell (by show w.heap.size ≤ g10; omega) _).setCell (by show w.heap.size ≤ g10; omega) _)
  clear hX M_p M_q M_r M_s OA OB OR O_8 O_9 O_10 O_11 hB
  have M_p := M_p_
  have M_q := M_q_
  have M_r := M_r_
  have M_s := M_s_
  have OA := OA_
  have OB := OB_
  have OR := OR_
  have O_8 := O_8_
  have O_9 := O_9_
  have O_10 := O_10_
  have O_11 := O_11_
  have hB := hB_
  clear M_p_ M_q_ M_r_ M_s_ OA_ OB_ OR_ O_8_ O_9_ O_10_ O_11_ hB_
  refine tree_one (i := 19) (by kernel_rfl) rfl ⟨_, rfl, fun K hK => ?_⟩
  obtain ⟨P1, P2, P3⟩ := O_11.at_
  go_wp2
  clear P1 P2 P3
  refine hK _ _ trivial ?_
  clear hK K
  obtain ⟨V5, hX⟩ : ∃ X, (V4.setCell ⟨g11, 0, none⟩ (.bool s_s)).setCell ⟨g11, 1, none⟩ (.slice a_s l_s c_s) = X := ⟨_, rfl⟩
  rw [hX]
  have M_p_ := Lib.hid (hX ▸ (((M_p.out.aside O_11).put (p := g11) (i := 0) (by rintro ⟨_, h⟩; exact h rfl) (.bool s_s)).put (p := g11) (i := 1) (by rintro ⟨_, h⟩; exact h rfl) (.slice a_s l_s c_s)).mono (S' := fun _ => True) (fun _ _ _ => trivial))
  have M_q_ := Lib.hid (hX ▸ (((M_q.out.aside O_11).put (p := g11) (i := 0) (by rintro ⟨_, h⟩; exact h rfl) (.bool s_s)).put (p := g11) (i := 1) (by rintro ⟨_, h⟩; exact h rfl) (.slice a_s l_s c_s)).mono (S' := fun _ => True) (fun _ _ _ => trivial))
  have M_r_ := Lib.hid (hX ▸ (((M_r.out.aside O_11).put (p := g11) (i := 0) (by rintro ⟨_, h⟩; exact h rfl) (.bool s_s)).put (p := g11) (i := 1) (by rintro ⟨_, h⟩; exact h rfl) (.slice a_s l_s c_s)).mono (S' := fun _ => True) (fun _ _ _ => trivial))
  have M_s_ := Lib.hid (hX ▸ (((M_s.out.aside O_11).put (p := g11) (i := 0) (by rintro ⟨_, h⟩; exact h rfl) (.bool s_s)).put (p := g11) (i := 1) (by rintro ⟨_, h⟩; exact h rfl) (.slice a_s l_s c_s)).mono (S' := fun _ => True) (fun _ _ _ => trivial))
  have OA_ := hX ▸ ((OA.apart (q := g11) (by omega) 0 (.bool s_s)).apart (q := g11) (by omega) 1 (.slice a_s l_s c_s))
  have OB_ := hX ▸ ((OB.apart (q := g11) (by omega) 0 (.bool s_s)).apart (q := g11) (by omega) 1 (.slice a_s l_s c_s))
  have OR_ := hX ▸ ((OR.apart (q := g11) (by omega) 0 (.bool s_s)).apart (q := g11) (by omega) 1 (.slice a_s l_s c_s))
  have O_8_ := hX ▸ ((O_8.apart (q := g11) (by omega) 0 (.bool s_s)).apart (q := g11) (by omega) 1 (.slice a_s l_s c_s))
  have O_9_ := hX ▸ ((O_9.apart (q := g11) (by omega) 0 (.bool s_s)).apart (q := g11) (by omega) 1 (.slice a_s l_s c_s))
  have O_10_ := hX ▸ ((O_10.apart (q := g11) (by omega) 0 (.bool s_s)).apart (q := g11) (by omega) 1 (.slice a_s l_s c_s))
  have O_11_ : Own V5 g11 59 #[.bool s_s, .slice a_s l_s c_s] := hX ▸ (((O_11.put 0 _).put 1 _).as rfl)
  have hB_ : Below w.heap.size w V5 := hX ▸ ((hB.setCell (by show w.heap.size ≤ g11; omega) _).setCell (by show w.heap.size ≤ g11; omega) _)
  clear hX M_p M_q M_r M_s OA OB OR O_8 O_9 O_10 O_11 hB
  have M_p := M_p_
  have M_q := M_q_
  have M_r := M_r_
  have M_s := M_s_
  have OA := OA_
  have OB := OB_
  have OR := OR_
  have O_8 := O_8_
  have O_9 := O_9_
  have O_10 := O_10_
  have O_11 := O_11_
  have hB := hB_
  clear M_p_ M_q_ M_r_ M_s_ OA_ OB_ OR_ O_8_ O_9_ O_10_ O_11_ hB_
  refine tree_end (by kernel_rfl) ?_
  clear F_1 F_2 F_3 F_4 OA OB
  have hl := num_len0 (HZ.out ▸ M_r.out)
  go_upto_region 5 with fail
  obtain ⟨P1, P2, P3⟩ := O_10.at_
  go_upto_region 6 with fail
  clear P1 P2 P3
  obtain ⟨R1, R2, R3⟩ := OR.at_
  go_wp2
  refine bodyPost_ret (by first | (simp [results, Tryd.results13, go_sem, R1]; done) | (simp [results, Tryd.results13, go_sem, R1]; rfl)) rfl ⟨by rw [EV.out] <;> rfl, ?_⟩
  repeat' (first | (with_reducible exact Below.refl _ _) | (with_reducible assumption) | (with_reducible refine below_drewN ?_ _) | (with_reducible refine Below.drew ?_) | (with_reducible refine Below.alloc ?_ ?_ _) | (with_reducible refine Below.setCell ?_ ?_ _) | (with_reducible refine then_ ?_ (by with_reducible assumption) ?_) | (with_reducible exact Nat.le_refl _) | (with_reducible exact Nat.le_succ _) | (with_reducible exact Nat.le_succ_of_le (by with_reducible assumption)) | omega | (simp; done) | (simp; omega) | (exact Nat.le_succ _) | (exact Nat.le_succ_of_le (by with_reducible assumption)))
set_option maxHeartbeats 64000000 in
set_option maxRecDepth 20000 in
theorem do_3y {an ad bn bd : Int} (han : Fit an) (had : Fit ad) (hbn : Fit bn) (hbd : Fit bd) (ra : decide (Rgt an ad) = true) (rb : decide (Rgt bn bd) = true) (hz : bn ≠ 0) (hok : (fb (an * bd) && fb (ad * bn)) = true) (fn : Fit (an * bd)) (fd : Fit (ad * bn)) (hd0 : ad * bn ≠ 0) (VV : Value) (hV : VV = .tuple #[.agg #[.int .u64 (L0 (mkP (an * bd) (ad * bn))), .int .u64 (L1 (mkP (an * bd) (ad * bn))), .int .u64 (L2 (mkP (an * bd) (ad * bn))), .int .u64 (L3 (mkP (an * bd) (ad * bn))), .int .u64 (L0 (mkQ (an * bd) (ad * bn))), .int .u64 (L1 (mkQ (an * bd) (ad * bn))), .int .u64 (L2 (mkQ (an * bd) (ad * bn))), .int .u64 (L3 (mkQ (an * bd) (ad * bn)))], .int .i64 (mkR (an * bd) (ad * bn))]) (w : World) : Calls Tryd.prog 13 #[.int .i64 3, .agg #[.int .u64 (L0 an), .int .u64 (L1 an), .int .u64 (L2 an), .int .u64 (L3 an), .int .u64 (L0 ad), .int .u64 (L1 ad), .int .u64 (L2 ad), .int .u64 (L3 ad)], .agg #[.int .u64 (L0 bn), .int .u64 (L1 bn), .int .u64 (L2 bn), .int .u64 (L3 bn), .int .u64 (L0 bd), .int .u64 (L1 bd), .int .u64 (L2 bd), .int .u64 (L3 bd)]] w fun e w' => e = .returned VV ∧ Below w.heap.size w w' := by
  have EV := Lib.hid hV
  clear hV
  have FT := Lib.hid hok
  have HZ := Lib.hid hz
  clear hz
  have FN := Lib.hid fn
  have FD := Lib.hid fd
  have HD := Lib.hid hd0
  have F_1 := Lib.hid (fun w => of_anyz an han w)
  have F_2 := Lib.hid (fun w => of_anyz ad had w)
  have F_3 := Lib.hid (fun w => of_anyz bn hbn w)
  have F_4 := Lib.hid (fun w => of_anyz bd hbd w)
  have RA := Lib.hid (fun w => ra ▸ rright_any han had w)
  have RB := Lib.hid (fun w => rb ▸ rright_any hbn hbd w)
  clear ra rb
  go_enter Tryd.func13, Tryd.ntmps13
  go_upto_region 1 with fail
  go_name_world W0 hW0
  have OA : Own W0 w.heap.size 34 #[.int .u64 (L0 an), .int .u64 (L1 an), .int .u64 (L2 an), .int .u64 (L3 an), .int .u64 (L0 ad), .int .u64 (L1 ad), .int .u64 (L2 ad), .int .u64 (L3 ad)] := hW0 ▸ (by repeat' (first | (with_reducible assumption) | (with_reducible refine Own.drawnN ?_ _) | (with_reducible refine Own.drawn ?_) | (with_reducible refine Own.made_at ?_; first | rfl | (simp; done) | omega | (simp; omega)) | (with_reducible refine Own.more ?_ _) | (with_reducible refine Own.apart ?_ ?_ _ _; rotate_left; first | omega | (simp; done) | (simp; omega)) | (refine Own.put ?_ _ _)))
  have OB : Own W0 (w.heap.size + 1) 34 #[.int .u64 (L0 bn), .int .u64 (L1 bn), .int .u64 (L2 bn), .int .u64 (L3 bn), .int .u64 (L0 bd), .int .u64 (L1 bd), .int .u64 (L2 bd), .int .u64 (L3 bd)] := hW0 ▸ (by repeat' (first | (with_reducible assumption) | (with_reducible refine Own.drawnN ?_ _) | (with_reducible refine Own.drawn ?_) | (with_reducible refine Own.made_at ?_; first | rfl | (simp; done) | omega | (simp; omega)) | (with_reducible refine Own.more ?_ _) | (with_reducible refine Own.apart ?_ ?_ _ _; rotate_left; first | omega | (simp; done) | (simp; omega)) | (refine Own.put ?_ _ _)))
  have OR : Own W0 (w.heap.size + 2) 34 #[.int .u64 0, .int .u64 0, .int .u64 0, .int .u64 0, .int .u64 0, .int .u64 0, .int .u64 0, .int .u64 0] := hW0 ▸ (by repeat' (first | (with_reducible assumption) | (with_reducible refine Own.drawnN ?_ _) | (with_reducible refine Own.drawn ?_) | (with_reducible refine Own.made_at ?_; first | rfl | (simp; done) | omega | (simp; omega)) | (with_reducible refine Own.more ?_ _) | (with_reducible refine Own.apart ?_ ?_ _ _; rotate_left; first | omega | (simp; done) | (simp; omega)) | (refine Own.put ?_ _ _)))
  have hB : Below w.heap.size w W0 := hW0 ▸ (by repeat' (first | (with_reducible exact Below.refl _ _) | (with_reducible assumption) | (with_reducible refine below_drewN ?_ _) | (with_reducible refine Below.drew ?_) | (with_reducible refine Below.alloc ?_ ?_ _) | (with_reducible refine Below.setCell ?_ ?_ _) | (with_reducible refine then_ ?_ (by with_reducible assumption) ?_) | (with_reducible exact Nat.le_refl _) | (with_reducible exact Nat.le_succ _) | (with_reducible exact Nat.le_succ_of_le (by with_reducible assumption)) | omega | (simp; done) | (simp; omega) | (exact Nat.le_succ _) | (exact Nat.le_succ_of_le (by with_reducible assumption))))
  clear hW0
  have z0 := OR.in_
  obtain ⟨P1, P2, P3⟩ := OA.at_
  obtain ⟨Q1, Q2, Q3⟩ := OB.at_
  go_upto_region 3 with (first
    | (go_at_call 15; with_reducible refine (RA.out _).mono ?_; rintro e w1 ⟨rfl, hb1⟩; have HB1 := Lib.hid hb1; clear hb1 P1 P2 P3 Q1 Q2 Q3; obtain ⟨Q1, Q2, Q3⟩ := (OB.keep HB1.out).at_)
    | (go_at_call 15; with_reducible refine (RB.out _).mono ?_; rintro e w2 ⟨rfl, hb2⟩; have HB2 := Lib.hid hb2; clear hb2 Q1 Q2 Q3))
  replace OA := (OA.keep HB1.out).keep HB2.out
  replace OB := (OB.keep HB1.out).keep HB2.out
  replace OR := (OR.keep HB1.out).keep HB2.out
  replace hB := then_ (then_ hB HB1.out hB.size) HB2.out (Nat.le_trans hB.size HB1.out.size)
  have z2 := OR.in_
  clear HB1 HB2 z0 RA RB
  have zi1_OA := OA.in_
  have zi1_OB := OB.in_
  have zi1_OR := OR.in_
  go_upto_region 3 with fail
  refine region_memon (L := [.val (.pointer (some ⟨w.heap.size, 0, none⟩)), .val (.agg #[.int .u64 (L0 an), .int .u64 (L1 an), .int .u64 (L2 an), .int .u64 (L3 an)]), .num (fun w v => NumP w (fun _ => True) v an), .val (.pointer (some ⟨w.heap.size, 4, none⟩)), .val (.agg #[.int .u64 (L0 ad), .int .u64 (L1 ad), .int .u64 (L2 ad), .int .u64 (L3 ad)]), .num (fun w v => NumP w (fun _ => True) v ad), .val (.pointer (some ⟨w.heap.size + 1, 0, none⟩)), .val (.agg #[.int .u64 (L0 bn), .int .u64 (L1 bn), .int .u64 (L2 bn), .int .u64 (L3 bn)]), .num (fun w v => NumP w (fun _ => True) v bn), .val (.pointer (some ⟨w.heap.size + 1, 4, none⟩)), .val (.agg #[.int .u64 (L0 bd), .int .u64 (L1 bd), .int .u64 (L2 bd), .int .u64 (L3 bd)]), .num (fun w v => NumP w (fun _ => True) v bd), .cell 59 #[.bool false, .slice none 0 0], .cell 59 #[.bool false, .slice none 0 0], .cell 59 #[.bool false, .slice none 0 0], .cell 59 #[.bool false, .slice none 0 0]]) (by kernel_rfl) (by kernel_rfl) ⟨fun _ _ _ h hb => NumP.keep h hb, ⟨fun _ _ _ h hb => NumP.keep h hb, ⟨fun _ _ _ h hb => NumP.keep h hb, ⟨fun _ _ _ h hb => NumP.keep h hb, trivial⟩⟩⟩⟩
    ⟨fun a w R => sv_ (fa_Q_0 (R.slot 4 rfl)), fun a w R => sv_ (ld_A (R.val 0) (OA.drawn.keep R.below) rfl rfl rfl rfl), fun a w R => cn_t (enter_at Tryd.func35) (R.val 1) (F_1.out _), fun a w R => sv_ (fa_Q_1 (R.slot 4 rfl)), fun a w R => sv_ (ld_A (R.val 3) (OA.drawn.keep R.below) rfl rfl rfl rfl), fun a w R => cn_t (enter_at Tryd.func35) (R.val 4) (F_2.out _), fun a w R => sv_ (fa_Q_0 (R.slot 5 rfl)), fun a w R => sv_ (ld_A (R.val 6) (OB.drawn.keep R.below) rfl rfl rfl rfl), fun a w R => cn_t (enter_at Tryd.func35) (R.val 7) (F_3.out _), fun a w R => sv_ (fa_Q_1 (R.slot 5 rfl)), fun a w R => sv_ (ld_A (R.val 9) (OB.drawn.keep R.below) rfl rfl rfl rfl), fun a w R => cn_t (enter_at Tryd.func35) (R.val 10) (F_4.out _), fun a w R => (by show _ = _; simp [go_sem, execOp]), fun a w R => (by show _ = _; simp [go_sem, execOp]), fun a w R => (by show _ = _; simp [go_sem, execOp]), fun a w R => (by show _ = _; simp [go_sem, execOp]), trivial⟩ (fun act_ V1 I => ?_)
  obtain ⟨v_p, ev29, hn⟩ := I.num 2 (ltb rfl)
  obtain ⟨s_p, a_p, l_p, c_p, rfl⟩ := hn.shape
  have N_p := hn
  clear hn
  obtain ⟨v_q, ev32, hn⟩ := I.num 5 (ltb rfl)
  obtain ⟨s_q, a_q, l_q, c_q, rfl⟩ := hn.shape
  have N_q := hn
  clear hn
  obtain ⟨v_r, ev35, hn⟩ := I.num 8 (ltb rfl)
  obtain ⟨s_r, a_r, l_r, c_r, rfl⟩ := hn.shape
  have N_r := hn
  clear hn
  obtain ⟨v_s, ev38, hn⟩ := I.num 11 (ltb rfl)
  obtain ⟨s_s, a_s, l_s, c_s, rfl⟩ := hn.shape
  have N_s := hn
  clear hn
  obtain ⟨g8, eg8, lg8, O_8⟩ := I.cell 12 (ltb rfl)
  obtain ⟨g9, eg9, lg9, O_9⟩ := I.cell 13 (ltb rfl)
  obtain ⟨g10, eg10, lg10, O_10⟩ := I.cell 14 (ltb rfl)
  obtain ⟨g11, eg11, lg11, O_11⟩ := I.cell 15 (ltb rfl)
  have ng8_9 := I.apart2 12 13 (ltb rfl) (ltb rfl) (by decide) eg8 eg9
  have ng8_10 := I.apart2 12 14 (ltb rfl) (ltb rfl) (by decide) eg8 eg10
  have ng8_11 := I.apart2 12 15 (ltb rfl) (ltb rfl) (by decide) eg8 eg11
  have ng9_10 := I.apart2 13 14 (ltb rfl) (ltb rfl) (by decide) eg9 eg10
  have ng9_11 := I.apart2 13 15 (ltb rfl) (ltb rfl) (by decide) eg9 eg11
  have ng10_11 := I.apart2 14 15 (ltb rfl) (ltb rfl) (by decide) eg10 eg11
  rw [I.act [(27, (.pointer (some ⟨w.heap.size, 0, none⟩))), (28, (.agg #[.int .u64 (L0 an), .int .u64 (L1 an), .int .u64 (L2 an), .int .u64 (L3 an)])), (29, .agg #[.bool s_p, .slice a_p l_p c_p]), (30, (.pointer (some ⟨w.heap.size, 4, none⟩))), (31, (.agg #[.int .u64 (L0 ad), .int .u64 (L1 ad), .int .u64 (L2 ad), .int .u64 (L3 ad)])), (32, .agg #[.bool s_q, .slice a_q l_q c_q]), (33, (.pointer (some ⟨w.heap.size + 1, 0, none⟩))), (34, (.agg #[.int .u64 (L0 bn), .int .u64 (L1 bn), .int .u64 (L2 bn), .int .u64 (L3 bn)])), (35, .agg #[.bool s_r, .slice a_r l_r c_r]), (36, (.pointer (some ⟨w.heap.size + 1, 4, none⟩))), (37, (.agg #[.int .u64 (L0 bd), .int .u64 (L1 bd), .int .u64 (L2 bd), .int .u64 (L3 bd)])), (38, .agg #[.bool s_s, .slice a_s l_s c_s]), (8, .pointer (some ⟨g8, 0, none⟩)), (9, .pointer (some ⟨g9, 0, none⟩)), (10, .pointer (some ⟨g10, 0, none⟩)), (11, .pointer (some ⟨g11, 0, none⟩))]
    ⟨I.val 0 (ltb rfl), I.val 1 (ltb rfl), ev29, I.val 3 (ltb rfl), I.val 4 (ltb rfl), ev32, I.val 6 (ltb rfl), I.val 7 (ltb rfl), ev35, I.val 9 (ltb rfl), I.val 10 (ltb rfl), ev38, eg8, eg9, eg10, eg11, trivial⟩ rfl]
  have hb_ : Below w2.drew.heap.size w2.drew V1 := I.below
  change w2.heap.size ≤ g8 at lg8
  change w2.heap.size ≤ g9 at lg9
  change w2.heap.size ≤ g10 at lg10
  change w2.heap.size ≤ g11 at lg11
  clear I eg8 eg9 eg10 eg11 ev29 ev32 ev35 ev38
  simp only [List.foldl_cons, List.foldl_nil, List.setIfInBounds_toArray, List.set_cons_zero, List.set_cons_succ]
  replace OA := OA.drawn.keep hb_
  replace OB := OB.drawn.keep hb_
  replace OR := OR.drawn.keep hb_
  replace hB := then_ hB.drew hb_ hB.size
  clear hb_
  have M_p := Lib.hid N_p
  clear N_p
  have M_q := Lib.hid N_q
  clear N_q
  have M_r := Lib.hid N_r
  clear N_r
  have M_s := Lib.hid N_s
  clear N_s
  refine tree_one (i := 16) (by kernel_rfl) rfl ⟨_, rfl, fun K hK => ?_⟩
  obtain ⟨P1, P2, P3⟩ := O_8.at_
  go_wp2
  clear P1 P2 P3
  refine hK _ _ trivial ?_
  clear hK K
  obtain ⟨V2, hX⟩ : ∃ X, (V1.setCell ⟨g8, 0, none⟩ (.bool s_p)).setCell ⟨g8, 1, none⟩ (.slice a_p l_p c_p) = X := ⟨_, rfl⟩
  rw [hX]
  have M_p_ := Lib.hid (hX ▸ (((M_p.out.aside O_8).put (p := g8) (i := 0) (by rintro ⟨_, h⟩; exact h rfl) (.bool s_p)).put (p := g8) (i := 1) (by rintro ⟨_, h⟩; exact h rfl) (.slice a_p l_p c_p)).mono (S' := fun _ => True) (fun _ _ _ => trivial))
  have M_q_ := Lib.hid (hX ▸ (((M_q.out.aside O_8).put (p := g8) (i := 0) (by rintro ⟨_, h⟩; exact h rfl) (.bool s_p)).put (p := g8) (i := 1) (by rintro ⟨_, h⟩; exact h rfl) (.slice a_p l_p c_p)).mono (S' := fun _ => True) (fun _ _ _ => trivial))
  have M_r_ := Lib.hid (hX ▸ (((M_r.out.aside O_8).put (p := g8) (i := 0) (by rintro ⟨_, h⟩; exact h rfl) (.bool s_p)).put (p := g8) (i := 1) (by rintro ⟨_, h⟩; exact h rfl) (.slice a_p l_p c_p)).mono (S' := fun _ => True) (fun _ _ _ => trivial))
  have M_s_ := Lib.hid (hX ▸ (((M_s.out.aside O_8).put (p := g8) (i := 0) (by rintro ⟨_, h⟩; exact h rfl) (.bool s_p)).put (p := g8) (i := 1) (by rintro ⟨_, h⟩; exact h rfl) (.slice a_p l_p c_p)).mono (S' := fun _ => True) (fun _ _ _ => trivial))
  have OA_ := hX ▸ ((OA.apart (q := g8) (by omega) 0 (.bool s_p)).apart (q := g8) (by omega) 1 (.slice a_p l_p c_p))
  have OB_ := hX ▸ ((OB.apart (q := g8) (by omega) 0 (.bool s_p)).apart (q := g8) (by omega) 1 (.slice a_p l_p c_p))
  have OR_ := hX ▸ ((OR.apart (q := g8) (by omega) 0 (.bool s_p)).apart (q := g8) (by omega) 1 (.slice a_p l_p c_p))
  have O_8_ : Own V2 g8 59 #[.bool s_p, .slice a_p l_p c_p] := hX ▸ (((O_8.put 0 _).put 1 _).as rfl)
  have O_9_ := hX ▸ ((O_9.apart (q := g8) (by omega) 0 (.bool s_p)).apart (q := g8) (by omega) 1 (.slice a_p l_p c_p))
  have O_10_ := hX ▸ ((O_10.apart (q := g8) (by omega) 0 (.bool s_p)).apart (q := g8) (by omega) 1 (.slice a_p l_p c_p))
  have O_11_ := hX ▸ ((O_11.apart (q := g8) (by omega) 0 (.bool s_p)).apart (q := g8) (by omega) 1 (.slice a_p l_p c_p))
  have hB_ : Below w.heap.size w V2 := hX ▸ ((hB.setCell (by show w.heap.size ≤ g8; omega) _).setCell (by show w.heap.size ≤ g8; omega) _)
  clear hX M_p M_q M_r M_s OA OB OR O_8 O_9 O_10 O_11 hB
  have M_p := M_p_
  have M_q := M_q_
  have M_r := M_r_
  have M_s := M_s_
  have OA := OA_
  have OB := OB_
  have OR := OR_
  have O_8 := O_8_
  have O_9 := O_9_
  have O_10 := O_10_
  have O_11 := O_11_
  have hB := hB_
  clear M_p_ M_q_ M_r_ M_s_ OA_ OB_ OR_ O_8_ O_9_ O_10_ O_11_ hB_
  refine tree_one (i := 17) (by kernel_rfl) rfl ⟨_, rfl, fun K hK => ?_⟩
  obtain ⟨P1, P2, P3⟩ := O_9.at_
  go_wp2
  clear P1 P2 P3
  refine hK _ _ trivial ?_
  clear hK K
  obtain ⟨V3, hX⟩ : ∃ X, (V2.setCell ⟨g9, 0, none⟩ (.bool s_q)).setCell ⟨g9, 1, none⟩ (.slice a_q l_q c_q) = X := ⟨_, rfl⟩
  rw [hX]
  have M_p_ := Lib.hid (hX ▸ (((M_p.out.aside O_9).put (p := g9) (i := 0) (by rintro ⟨_, h⟩; exact h rfl) (.bool s_q)).put (p := g9) (i := 1) (by rintro ⟨_, h⟩; exact h rfl) (.slice a_q l_q c_q)).mono (S' := fun _ => True) (fun _ _ _ => trivial))
  have M_q_ := Lib.hid (hX ▸ (((M_q.out.aside O_9).put (p := g9) (i := 0) (by rintro ⟨_, h⟩; exact h rfl) (.bool s_q)).put (p := g9) (i := 1) (by rintro ⟨_, h⟩; exact h rfl) (.slice a_q l_q c_q)).mono (S' := fun _ => True) (fun _ _ _ => trivial))
  have M_r_ := Lib.hid (hX ▸ (((M_r.out.aside O_9).put (p := g9) (i := 0) (by rintro ⟨_, h⟩; exact h rfl) (.bool s_q)).put (p := g9) (i := 1) (by rintro ⟨_, h⟩; exact h rfl) (.slice a_q l_q c_q)).mono (S' := fun _ => True) (fun _ _ _ => trivial))
  have M_s_ := Lib.hid (hX ▸ (((M_s.out.aside O_9).put (p := g9) (i := 0) (by rintro ⟨_, h⟩; exact h rfl) (.bool s_q)).put (p := g9) (i := 1) (by rintro ⟨_, h⟩; exact h rfl) (.slice a_q l_q c_q)).mono (S' := fun _ => True) (fun _ _ _ => trivial))
  have OA_ := hX ▸ ((OA.apart (q := g9) (by omega) 0 (.bool s_q)).apart (q := g9) (by omega) 1 (.slice a_q l_q c_q))
  have OB_ := hX ▸ ((OB.apart (q := g9) (by omega) 0 (.bool s_q)).apart (q := g9) (by omega) 1 (.slice a_q l_q c_q))
  have OR_ := hX ▸ ((OR.apart (q := g9) (by omega) 0 (.bool s_q)).apart (q := g9) (by omega) 1 (.slice a_q l_q c_q))
  have O_8_ := hX ▸ ((O_8.apart (q := g9) (by omega) 0 (.bool s_q)).apart (q := g9) (by omega) 1 (.slice a_q l_q c_q))
  have O_9_ : Own V3 g9 59 #[.bool s_q, .slice a_q l_q c_q] := hX ▸ (((O_9.put 0 _).put 1 _).as rfl)
  have O_10_ := hX ▸ ((O_10.apart (q := g9) (by omega) 0 (.bool s_q)).apart (q := g9) (by omega) 1 (.slice a_q l_q c_q))
  have O_11_ := hX ▸ ((O_11.apart (q := g9) (by omega) 0 (.bool s_q)).apart (q := g9) (by omega) 1 (.slice a_q l_q c_q))
  have hB_ : Below w.heap.size w V3 := hX ▸ ((hB.setCell (by show w.heap.size ≤ g9; omega) _).setCell (by show w.heap.size ≤ g9; omega) _)
  clear hX M_p M_q M_r M_s OA OB OR O_8 O_9 O_10 O_11 hB
  have M_p := M_p_
  have M_q := M_q_
  have M_r := M_r_
  have M_s := M_s_
  have OA := OA_
  have OB := OB_
  have OR := OR_
  have O_8 := O_8_
  have O_9 := O_9_
  have O_10 := O_10_
  have O_11 := O_11_
  have hB := hB_
  clear M_p_ M_q_ M_r_ M_s_ OA_ OB_ OR_ O_8_ O_9_ O_10_ O_11_ hB_
  refine tree_one (i := 18) (by kernel_rfl) rfl ⟨_, rfl, fun K hK => ?_⟩
  obtain ⟨P1, P2, P3⟩ := O_10.at_
  go_wp2
  clear P1 P2 P3
  refine hK _ _ trivial ?_
  clear hK K
  obtain ⟨V4, hX⟩ : ∃ X, (V3.setCell ⟨g10, 0, none⟩ (.bool s_r)).setCell ⟨g10, 1, none⟩ (.slice a_r l_r c_r) = X := ⟨_, rfl⟩
  rw [hX]
  have M_p_ := Lib.hid (hX ▸ (((M_p.out.aside O_10).put (p := g10) (i := 0) (by rintro ⟨_, h⟩; exact h rfl) (.bool s_r)).put (p := g10) (i := 1) (by rintro ⟨_, h⟩; exact h rfl) (.slice a_r l_r c_r)).mono (S' := fun _ => True) (fun _ _ _ => trivial))
  have M_q_ := Lib.hid (hX ▸ (((M_q.out.aside O_10).put (p := g10) (i := 0) (by rintro ⟨_, h⟩; exact h rfl) (.bool s_r)).put (p := g10) (i := 1) (by rintro ⟨_, h⟩; exact h rfl) (.slice a_r l_r c_r)).mono (S' := fun _ => True) (fun _ _ _ => trivial))
  have M_r_ := Lib.hid (hX ▸ (((M_r.out.aside O_10).put (p := g10) (i := 0) (by rintro ⟨_, h⟩; exact h rfl) (.bool s_r)).put (p := g10) (i := 1) (by rintro ⟨_, h⟩; exact h rfl) (.slice a_r l_r c_r)).mono (S' := fun _ => True) (fun _ _ _ => trivial))
  have M_s_ := Lib.hid (hX ▸ (((M_s.out.aside O_10).put (p := g10) (i := 0) (by rintro ⟨_, h⟩; exact h rfl) (.bool s_r)).put (p := g10) (i := 1) (by rintro ⟨_, h⟩; exact h rfl) (.slice a_r l_r c_r)).mono (S' := fun _ => True) (fun _ _ _ => trivial))
  have OA_ := hX ▸ ((OA.apart (q := g10) (by omega) 0 (.bool s_r)).apart (q := g10) (by omega) 1 (.slice a_r l_r c_r))
  have OB_ := hX ▸ ((OB.apart (q := g10) (by omega) 0 (.bool s_r)).apart (q := g10) (by omega) 1 (.slice a_r l_r c_r))
  have OR_ := hX ▸ ((OR.apart (q := g10) (by omega) 0 (.bool s_r)).apart (q := g10) (by omega) 1 (.slice a_r l_r c_r))
  have O_8_ := hX ▸ ((O_8.apart (q := g10) (by omega) 0 (.bool s_r)).apart (q := g10) (by omega) 1 (.slice a_r l_r c_r))
  have O_9_ := hX ▸ ((O_9.apart (q := g10) (by omega) 0 (.bool s_r)).apart (q := g10) (by omega) 1 (.slice a_r l_r c_r))
  have O_10_ : Own V4 g10 59 #[.bool s_r, .slice a_r l_r c_r] := hX ▸ (((O_10.put 0 _).put 1 _).as rfl)
  have O_11_ := hX ▸ ((O_11.apart (q := g10) (by omega) 0 (.bool s_r)).apart (q := g10) (by omega) 1 (.slice a_r l_r c_r))
  have hB_ : Below w.heap.size w V4 := hX ▸ ((hB.setCell (by show w.heap.size ≤ g10; omega) _).setCell (by show w.heap.size ≤ g10; omega) _)
  clear hX M_p M_q M_r M_s OA OB OR O_8 O_9 O_10 O_11 hB
  have M_p := M_p_
  have M_q := M_q_
  have M_r := M_r_
  have M_s := M_s_
  have OA := OA_
  have OB := OB_
  have OR := OR_
  have O_8 := O_8_
  have O_9 := O_9_
  have O_10 := O_10_
  have O_11 := O_11_
  have hB := hB_
  clear M_p_ M_q_ M_r_ M_s_ OA_ OB_ OR_ O_8_ O_9_ O_10_ O_11_ hB_
  refine tree_one (i := 19) (by kernel_rfl) rfl ⟨_, rfl, fun K hK => ?_⟩
  obtain ⟨P1, P2, P3⟩ := O_11.at_
  go_wp2
  clear P1 P2 P3
  refine hK _ _ trivial ?_
  clear hK K
  obtain ⟨V5, hX⟩ : ∃ X, (V4.setCell ⟨g11, 0, none⟩ (.bool s_s)).setCell ⟨g11, 1, none⟩ (.slice a_s l_s c_s) = X := ⟨_, rfl⟩
  rw [hX]
  have M_p_ := Lib.hid (hX ▸ (((M_p.out.aside O_11).put (p := g11) (i := 0) (by rintro ⟨_, h⟩; exact h rfl) (.bool s_s)).put (p := g11) (i := 1) (by rintro ⟨_, h⟩; exact h rfl) (.slice a_s l_s c_s)).mono (S' := fun _ => True) (fun _ _ _ => trivial))
  have M_q_ := Lib.hid (hX ▸ (((M_q.out.aside O_11).put (p := g11) (i := 0) (by rintro ⟨_, h⟩; exact h rfl) (.bool s_s)).put (p := g11) (i := 1) (by rintro ⟨_, h⟩; exact h rfl) (.slice a_s l_s c_s)).mono (S' := fun _ => True) (fun _ _ _ => trivial))
  have M_r_ := Lib.hid (hX ▸ (((M_r.out.aside O_11).put (p := g11) (i := 0) (by rintro ⟨_, h⟩; exact h rfl) (.bool s_s)).put (p := g11) (i := 1) (by rintro ⟨_, h⟩; exact h rfl) (.slice a_s l_s c_s)).mono (S' := fun _ => True) (fun _ _ _ => trivial))
  have M_s_ := Lib.hid (hX ▸ (((M_s.out.aside O_11).put (p := g11) (i := 0) (by rintro ⟨_, h⟩; exact h rfl) (.bool s_s)).put (p := g11) (i := 1) (by rintro ⟨_, h⟩; exact h rfl) (.slice a_s l_s c_s)).mono (S' := fun _ => True) (fun _ _ _ => trivial))
  have OA_ := hX ▸ ((OA.apart (q := g11) (by omega) 0 (.bool s_s)).apart (q := g11) (by omega) 1 (.slice a_s l_s c_s))
  have OB_ := hX ▸ ((OB.apart (q := g11) (by omega) 0 (.bool s_s)).apart (q := g11) (by omega) 1 (.slice a_s l_s c_s))
  have OR_ := hX ▸ ((OR.apart (q := g11) (by omega) 0 (.bool s_s)).apart (q := g11) (by omega) 1 (.slice a_s l_s c_s))
  have O_8_ := hX ▸ ((O_8.apart (q := g11) (by omega) 0 (.bool s_s)).apart (q := g11) (by omega) 1 (.slice a_s l_s c_s))
  have O_9_ := hX ▸ ((O_9.apart (q := g11) (by omega) 0 (.bool s_s)).apart (q := g11) (by omega) 1 (.slice a_s l_s c_s))
  have O_10_ := hX ▸ ((O_10.apart (q := g11) (by omega) 0 (.bool s_s)).apart (q := g11) (by omega) 1 (.slice a_s l_s c_s))
  have O_11_ : Own V5 g11 59 #[.bool s_s, .slice a_s l_s c_s] := hX ▸ (((O_11.put 0 _).put 1 _).as rfl)
  have hB_ : Below w.heap.size w V5 := hX ▸ ((hB.setCell (by show w.heap.size ≤ g11; omega) _).setCell (by show w.heap.size ≤ g11; omega) _)
  clear hX M_p M_q M_r M_s OA OB OR O_8 O_9 O_10 O_11 hB
  have M_p := M_p_
  have M_q := M_q_
  have M_r := M_r_
  have M_s := M_s_
  have OA := OA_
  have OB := OB_
  have OR := OR_
  have O_8 := O_8_
  have O_9 := O_9_
  have O_10 := O_10_
  have O_11 := O_11_
  have hB := hB_
  clear M_p_ M_q_ M_r_ M_s_ OA_ OB_ OR_ O_8_ O_9_ O_10_ O_11_ hB_
  refine tree_end (by kernel_rfl) ?_
  clear F_1 F_2 F_3 F_4 OA OB
  have hl := num_len M_r.out HZ.out
  go_upto_region 5 with fail
  obtain ⟨P1, P2, P3⟩ := O_10.at_
  go_upto_region 7 with fail
  clear P1 P2 P3 hl
  have zi6_OR := OR.in_
  have zi6_O_8 := O_8.in_
  have zi6_O_9 := O_9.in_
  have zi6_O_10 := O_10.in_
  have zi6_O_11 := O_11.in_
  go_upto_region 7 with fail
  refine region_memon (L := [.val (.agg #[.bool s_p, .slice a_p l_p c_p]), .val (.agg #[.bool s_s, .slice a_s l_s c_s]), .num (fun w v => NumP w (fun _ => True) v (an * bd)), .val (.agg #[.bool s_q, .slice a_q l_q c_q]), .val (.agg #[.bool s_r, .slice a_r l_r c_r]), .num (fun w v => NumP w (fun _ => True) v (ad * bn)), .cell 59 #[.bool false, .slice none 0 0], .cell 59 #[.bool false, .slice none 0 0]]) (by kernel_rfl) (by kernel_rfl) ⟨fun _ _ _ h hb => NumP.keep h hb, ⟨fun _ _ _ h hb => NumP.keep h hb, trivial⟩⟩
    ⟨fun a w R => sv_ (ld_N (R.slot 8 rfl) (O_8.drawn.keep R.below) rfl rfl), fun a w R => sv_ (ld_N (R.slot 11 rfl) (O_11.drawn.keep R.below) rfl rfl), fun a w R => cn_tt (enter_at Tryd.func36) (R.val 0) (R.val 1) (mul_P han hbd _ ((M_p.out.keep (Below.refl _ _).drew).keep R.below) ((M_s.out.keep (Below.refl _ _).drew).keep R.below)), fun a w R => sv_ (ld_N (R.slot 9 rfl) (O_9.drawn.keep R.below) rfl rfl), fun a w R => sv_ (ld_N (R.slot 10 rfl) (O_10.drawn.keep R.below) rfl rfl), fun a w R => cn_tt (enter_at Tryd.func36) (R.val 3) (R.val 4) (mul_P had hbn _ ((M_q.out.keep (Below.refl _ _).drew).keep R.below) ((M_r.out.keep (Below.refl _ _).drew).keep R.below)), fun a w R => (by show _ = _; simp [go_sem, execOp]), fun a w R => (by show _ = _; simp [go_sem, execOp]), trivial⟩ (fun act_ V6 I => ?_)
  obtain ⟨v_x, ev48, hn⟩ := I.num 2 (ltb rfl)
  obtain ⟨s_x, a_x, l_x, c_x, rfl⟩ := hn.shape
  have N_x := hn
  clear hn
  obtain ⟨v_y, ev51, hn⟩ := I.num 5 (ltb rfl)
  obtain ⟨s_y, a_y, l_y, c_y, rfl⟩ := hn.shape
  have N_y := hn
  clear hn
  obtain ⟨g12, eg12, lg12, O_12⟩ := I.cell 6 (ltb rfl)
  obtain ⟨g13, eg13, lg13, O_13⟩ := I.cell 7 (ltb rfl)
  have ng12_13 := I.apart2 6 7 (ltb rfl) (ltb rfl) (by decide) eg12 eg13
  rw [I.act [(46, (.agg #[.bool s_p, .slice a_p l_p c_p])), (47, (.agg #[.bool s_s, .slice a_s l_s c_s])), (48, .agg #[.bool s_x, .slice a_x l_x c_x]), (49, (.agg #[.bool s_q, .slice a_q l_q c_q])), (50, (.agg #[.bool s_r, .slice a_r l_r c_r])), (51, .agg #[.bool s_y, .slice a_y l_y c_y]), (12, .pointer (some ⟨g12, 0, none⟩)), (13, .pointer (some ⟨g13, 0, none⟩))]
    ⟨I.val 0 (ltb rfl), I.val 1 (ltb rfl), ev48, I.val 3 (ltb rfl), I.val 4 (ltb rfl), ev51, eg12, eg13, trivial⟩ rfl]
  have hb_ : Below V5.drew.heap.size V5.drew V6 := I.below
  change V5.heap.size ≤ g12 at lg12
  change V5.heap.size ≤ g13 at lg13
  clear I eg12 eg13 ev48 ev51
  simp only [List.foldl_cons, List.foldl_nil, List.setIfInBounds_toArray, List.set_cons_zero, List.set_cons_succ]
  replace OR := OR.drawn.keep hb_
  replace O_8 := O_8.drawn.keep hb_
  replace O_9 := O_9.drawn.keep hb_
  replace O_10 := O_10.drawn.keep hb_
  replace O_11 := O_11.drawn.keep hb_
  replace M_p := Lib.hid ((M_p.out.keep (Below.refl _ _).drew).keep hb_)
  replace M_q := Lib.hid ((M_q.out.keep (Below.refl _ _).drew).keep hb_)
  replace M_r := Lib.hid ((M_r.out.keep (Below.refl _ _).drew).keep hb_)
  replace M_s := Lib.hid ((M_s.out.keep (Below.refl _ _).drew).keep hb_)
  replace hB := then_ hB.drew hb_ hB.size
  clear hb_
  have M_x := Lib.hid N_x
  clear N_x
  have M_y := Lib.hid N_y
  clear N_y
  refine tree_one (i := 8) (by kernel_rfl) rfl ⟨_, rfl, fun K hK => ?_⟩
  obtain ⟨P1, P2, P3⟩ := O_12.at_
  go_wp2
  clear P1 P2 P3
  refine hK _ _ trivial ?_
  clear hK K
  obtain ⟨V7, hX⟩ : ∃ X, (V6.setCell ⟨g12, 0, none⟩ (.bool s_x)).setCell ⟨g12, 1, none⟩ (.slice a_x l_x c_x) = X := ⟨_, rfl⟩
  rw [hX]
  have M_p_ := Lib.hid (hX ▸ (((M_p.out.aside O_12).put (p := g12) (i := 0) (by rintro ⟨_, h⟩; exact h rfl) (.bool s_x)).put (p := g12) (i := 1) (by rintro ⟨_, h⟩; exact h rfl) (.slice a_x l_x c_x)).mono (S' := fun _ => True) (fun _ _ _ => trivial))
  have M_q_ := Lib.hid (hX ▸ (((M_q.out.aside O_12).put (p := g12) (i := 0) (by rintro ⟨_, h⟩; exact h rfl) (.bool s_x)).put (p := g12) (i := 1) (by rintro ⟨_, h⟩; exact h rfl) (.slice a_x l_x c_x)).mono (S' := fun _ => True) (fun _ _ _ => trivial))
  have M_r_ := Lib.hid (hX ▸ (((M_r.out.aside O_12).put (p := g12) (i := 0) (by rintro ⟨_, h⟩; exact h rfl) (.bool s_x)).put (p := g12) (i := 1) (by rintro ⟨_, h⟩; exact h rfl) (.slice a_x l_x c_x)).mono (S' := fun _ => True) (fun _ _ _ => trivial))
  have M_s_ := Lib.hid (hX ▸ (((M_s.out.aside O_12).put (p := g12) (i := 0) (by rintro ⟨_, h⟩; exact h rfl) (.bool s_x)).put (p := g12) (i := 1) (by rintro ⟨_, h⟩; exact h rfl) (.slice a_x l_x c_x)).mono (S' := fun _ => True) (fun _ _ _ => trivial))
  have M_x_ := Lib.hid (hX ▸ (((M_x.out.aside O_12).put (p := g12) (i := 0) (by rintro ⟨_, h⟩; exact h rfl) (.bool s_x)).put (p := g12) (i := 1) (by rintro ⟨_, h⟩; exact h rfl) (.slice a_x l_x c_x)).mono (S' := fun _ => True) (fun _ _ _ => trivial))
  have M_y_ := Lib.hid (hX ▸ (((M_y.out.aside O_12).put (p := g12) (i := 0) (by rintro ⟨_, h⟩; exact h rfl) (.bool s_x)).put (p := g12) (i := 1) (by rintro ⟨_, h⟩; exact h rfl) (.slice a_x l_x c_x)).mono (S' := fun _ => True) (fun _ _ _ => trivial))
  have OR_ := hX ▸ ((OR.apart (q := g12) (by omega) 0 (.bool s_x)).apart (q := g12) (by omega) 1 (.slice a_x l_x c_x))
  have O_8_ := hX ▸ ((O_8.apart (q := g12) (by omega) 0 (.bool s_x)).apart (q := g12) (by omega) 1 (.slice a_x l_x c_x))
  have O_9_ := hX ▸ ((O_9.apart (q := g12) (by omega) 0 (.bool s_x)).apart (q := g12) (by omega) 1 (.slice a_x l_x c_x))
  have O_10_ := hX ▸ ((O_10.apart (q := g12) (by omega) 0 (.bool s_x)).apart (q := g12) (by omega) 1 (.slice a_x l_x c_x))
  have O_11_ := hX ▸ ((O_11.apart (q := g12) (by omega) 0 (.bool s_x)).apart (q := g12) (by omega) 1 (.slice a_x l_x c_x))
  have O_12_ : Own V7 g12 59 #[.bool s_x, .slice a_x l_x c_x] := hX ▸ (((O_12.put 0 _).put 1 _).as rfl)
  have O_13_ := hX ▸ ((O_13.apart (q := g12) (by omega) 0 (.bool s_x)).apart (q := g12) (by omega) 1 (.slice a_x l_x c_x))
  have hB_ : Below w.heap.size w V7 := hX ▸ ((hB.setCell (by show w.heap.size ≤ g12; omega) _).setCell (by show w.heap.size ≤ g12; omega) _)
  clear hX M_p M_q M_r M_s M_x M_y OR O_8 O_9 O_10 O_11 O_12 O_13 hB
  have M_p := M_p_
  have M_q := M_q_
  have M_r := M_r_
  have M_s := M_s_
  have M_x := M_x_
  have M_y := M_y_
  have OR := OR_
  have O_8 := O_8_
  have O_9 := O_9_
  have O_10 := O_10_
  have O_11 := O_11_
  have O_12 := O_12_
  have O_13 := O_13_
  have hB := hB_
  clear M_p_ M_q_ M_r_ M_s_ M_x_ M_y_ OR_ O_8_ O_9_ O_10_ O_11_ O_12_ O_13_ hB_
  refine tree_one (i := 9) (by kernel_rfl) rfl ⟨_, rfl, fun K hK => ?_⟩
  obtain ⟨P1, P2, P3⟩ := O_13.at_
  go_wp2
  clear P1 P2 P3
  refine hK _ _ trivial ?_
  clear hK K
  obtain ⟨V8, hX⟩ : ∃ X, (V7.setCell ⟨g13, 0, none⟩ (.bool s_y)).setCell ⟨g13, 1, none⟩ (.slice a_y l_y c_y) = X := ⟨_, rfl⟩
  rw [hX]
  have M_p_ := Lib.hid (hX ▸ (((M_p.out.aside O_13).put (p := g13) (i := 0) (by rintro ⟨_, h⟩; exact h rfl) (.bool s_y)).put (p := g13) (i := 1) (by rintro ⟨_, h⟩; exact h rfl) (.slice a_y l_y c_y)).mono (S' := fun _ => True) (fun _ _ _ => trivial))
  have M_q_ := Lib.hid (hX ▸ (((M_q.out.aside O_13).put (p := g13) (i := 0) (by rintro ⟨_, h⟩; exact h rfl) (.bool s_y)).put (p := g13) (i := 1) (by rintro ⟨_, h⟩; exact h rfl) (.slice a_y l_y c_y)).mono (S' := fun _ => True) (fun _ _ _ => trivial))
  have M_r_ := Lib.hid (hX ▸ (((M_r.out.aside O_13).put (p := g13) (i := 0) (by rintro ⟨_, h⟩; exact h rfl) (.bool s_y)).put (p := g13) (i := 1) (by rintro ⟨_, h⟩; exact h rfl) (.slice a_y l_y c_y)).mono (S' := fun _ => True) (fun _ _ _ => trivial))
  have M_s_ := Lib.hid (hX ▸ (((M_s.out.aside O_13).put (p := g13) (i := 0) (by rintro ⟨_, h⟩; exact h rfl) (.bool s_y)).put (p := g13) (i := 1) (by rintro ⟨_, h⟩; exact h rfl) (.slice a_y l_y c_y)).mono (S' := fun _ => True) (fun _ _ _ => trivial))
  have M_x_ := Lib.hid (hX ▸ (((M_x.out.aside O_13).put (p := g13) (i := 0) (by rintro ⟨_, h⟩; exact h rfl) (.bool s_y)).put (p := g13) (i := 1) (by rintro ⟨_, h⟩; exact h rfl) (.slice a_y l_y c_y)).mono (S' := fun _ => True) (fun _ _ _ => trivial))
  have M_y_ := Lib.hid (hX ▸ (((M_y.out.aside O_13).put (p := g13) (i := 0) (by rintro ⟨_, h⟩; exact h rfl) (.bool s_y)).put (p := g13) (i := 1) (by rintro ⟨_, h⟩; exact h rfl) (.slice a_y l_y c_y)).mono (S' := fun _ => True) (fun _ _ _ => trivial))
  have OR_ := hX ▸ ((OR.apart (q := g13) (by omega) 0 (.bool s_y)).apart (q := g13) (by omega) 1 (.slice a_y l_y c_y))
  have O_8_ := hX ▸ ((O_8.apart (q := g13) (by omega) 0 (.bool s_y)).apart (q := g13) (by omega) 1 (.slice a_y l_y c_y))
  have O_9_ := hX ▸ ((O_9.apart (q := g13) (by omega) 0 (.bool s_y)).apart (q := g13) (by omega) 1 (.slice a_y l_y c_y))
  have O_10_ := hX ▸ ((O_10.apart (q := g13) (by omega) 0 (.bool s_y)).apart (q := g13) (by omega) 1 (.slice a_y l_y c_y))
  have O_11_ := hX ▸ ((O_11.apart (q := g13) (by omega) 0 (.bool s_y)).apart (q := g13) (by omega) 1 (.slice a_y l_y c_y))
  have O_12_ := hX ▸ ((O_12.apart (q := g13) (by omega) 0 (.bool s_y)).apart (q := g13) (by omega) 1 (.slice a_y l_y c_y))
  have O_13_ : Own V8 g13 59 #[.bool s_y, .slice a_y l_y c_y] := hX ▸ (((O_13.put 0 _).put 1 _).as rfl)
  have hB_ : Below w.heap.size w V8 := hX ▸ ((hB.setCell (by show w.heap.size ≤ g13; omega) _).setCell (by show w.heap.size ≤ g13; omega) _)
  clear hX M_p M_q M_r M_s M_x M_y OR O_8 O_9 O_10 O_11 O_12 O_13 hB
  have M_p := M_p_
  have M_q := M_q_
  have M_r := M_r_
  have M_s := M_s_
  have M_x := M_x_
  have M_y := M_y_
  have OR := OR_
  have O_8 := O_8_
  have O_9 := O_9_
  have O_10 := O_10_
  have O_11 := O_11_
  have O_12 := O_12_
  have O_13 := O_13_
  have hB := hB_
  clear M_p_ M_q_ M_r_ M_s_ M_x_ M_y_ OR_ O_8_ O_9_ O_10_ O_11_ O_12_ O_13_ hB_
  refine tree_end (by kernel_rfl) ?_
  go_upto_region 8 with fail
  obtain ⟨P1, P2, P3⟩ := O_12.at_
  obtain ⟨Q1, Q2, Q3⟩ := O_13.at_
  go_upto_region 10 with (go_at_call 37; refine (fit_is (x := an * bd) (y := ad * bn) FT.out _ (by repeat' (first | (with_reducible assumption) | (with_reducible refine Own.drawnN ?_ _) | (with_reducible refine Own.drawn ?_) | (with_reducible refine Own.made_at ?_; first | rfl | (simp; done) | omega | (simp; omega)) | (with_reducible refine Own.more ?_ _) | (with_reducible refine Own.apart ?_ ?_ _ _; rotate_left; first | omega | (simp; done) | (simp; omega)) | (refine Own.put ?_ _ _))) (M_x.out.keep (by repeat' (first | (with_reducible exact Below.refl _ _) | (with_reducible assumption) | (with_reducible refine below_drewN ?_ _) | (with_reducible refine Below.drew ?_) | (with_reducible refine Below.alloc ?_ ?_ _) | (with_reducible refine Below.setCell ?_ ?_ _) | (with_reducible refine then_ ?_ (by with_reducible assumption) ?_) | (with_reducible exact Nat.le_refl _) | (with_reducible exact Nat.le_succ _) | (with_reducible exact Nat.le_succ_of_le (by with_reducible assumption)) | omega | (simp; done) | (simp; omega) | (exact Nat.le_succ _) | (exact Nat.le_succ_of_le (by with_reducible assumption))))) (M_y.out.keep (by repeat' (first | (with_reducible exact Below.refl _ _) | (with_reducible assumption) | (with_reducible refine below_drewN ?_ _) | (with_reducible refine Below.drew ?_) | (with_reducible refine Below.alloc ?_ ?_ _) | (with_reducible refine Below.setCell ?_ ?_ _) | (with_reducible refine then_ ?_ (by with_reducible assumption) ?_) | (with_reducible exact Nat.le_refl _) | (with_reducible exact Nat.le_succ _) | (with_reducible exact Nat.le_succ_of_le (by with_reducible assumption)) | omega | (simp; done) | (simp; omega) | (exact Nat.le_succ _) | (exact Nat.le_succ_of_le (by with_reducible assumption)))))).mono ?_; rintro e u9 ⟨rfl, hbu⟩; have hbf : Below V8.heap.size V8 u9 := then_ (by repeat' (first | (with_reducible exact Below.refl _ _) | (with_reducible assumption) | (with_reducible refine below_drewN ?_ _) | (with_reducible refine Below.drew ?_) | (with_reducible refine Below.alloc ?_ ?_ _) | (with_reducible refine Below.setCell ?_ ?_ _) | (with_reducible refine then_ ?_ (by with_reducible assumption) ?_) | (with_reducible exact Nat.le_refl _) | (with_reducible exact Nat.le_succ _) | (with_reducible exact Nat.le_succ_of_le (by with_reducible assumption)) | omega | (simp; done) | (simp; omega) | (exact Nat.le_succ _) | (exact Nat.le_succ_of_le (by with_reducible assumption)))) hbu (by simp); clear hbu P1 P2 P3 Q1 Q2 Q3)
  replace OR := OR.keep hbf
  replace O_8 := O_8.keep hbf
  replace O_9 := O_9.keep hbf
  replace O_10 := O_10.keep hbf
  replace O_11 := O_11.keep hbf
  replace O_12 := O_12.keep hbf
  replace O_13 := O_13.keep hbf
  replace M_p := Lib.hid (M_p.out.keep hbf)
  replace M_q := Lib.hid (M_q.out.keep hbf)
  replace M_r := Lib.hid (M_r.out.keep hbf)
  replace M_s := Lib.hid (M_s.out.keep hbf)
  replace M_x := Lib.hid (M_x.out.keep hbf)
  replace M_y := Lib.hid (M_y.out.keep hbf)
  replace hB := then_ hB hbf hB.size
  clear hbf
  obtain ⟨P1, P2, P3⟩ := O_12.at_
  obtain ⟨Q1, Q2, Q3⟩ := O_13.at_
  obtain ⟨R1, R2, R3⟩ := OR.at_
  have MK := Lib.hid (made_mk _ _ _ _ _ u9 M_x.out M_y.out HD.out FN.out FD.out)
  obtain ⟨mp, hmp⟩ : ∃ z, mkP (an * bd) (ad * bn) = z := ⟨_, rfl⟩
  obtain ⟨mq, hmq⟩ : ∃ z, mkQ (an * bd) (ad * bn) = z := ⟨_, rfl⟩
  obtain ⟨mr, hmr⟩ : ∃ z, mkR (an * bd) (ad * bn) = z := ⟨_, rfl⟩
  rw [hmp, hmq, hmr] at MK EV
  clear hmp hmq hmr
  go_wp2_with (go_at_call 38; refine MK.out.mono ?_; rintro e um ⟨rfl, hbm⟩; have ORm := OR.keep hbm; have hBm := then_ hB hbm hB.size; clear R1 R2 R3 P1 P2 P3 Q1 Q2 Q3; obtain ⟨R1, R2, R3⟩ := ORm.at_)
  refine bodyPost_ret (by first | (simp [results, Tryd.results13, go_sem, R1]; done) | (simp [results, Tryd.results13, go_sem, R1]; rfl)) rfl ⟨by rw [EV.out] <;> rfl, ?_⟩
  repeat' (first | (with_reducible exact Below.refl _ _) | (with_reducible assumption) | (with_reducible refine below_drewN ?_ _) | (with_reducible refine Below.drew ?_) | (with_reducible refine Below.alloc ?_ ?_ _) | (with_reducible refine Below.setCell ?_ ?_ _) | (with_reducible refine then_ ?_ (by with_reducible assumption) ?_) | (with_reducible exact Nat.le_refl _) | (with_reducible exact Nat.le_succ _) | (with_reducible exact Nat.le_succ_of_le (by with_reducible assumption)) | omega | (simp; done) | (simp; omega) | (exact Nat.le_succ _) | (exact Nat.le_succ_of_le (by with_reducible assumption)))
set_option maxHeartbeats 64000000 in
set_option maxRecDepth 20000 in
theorem do_3n {an ad bn bd : Int} (han : Fit an) (had : Fit ad) (hbn : Fit bn) (hbd : Fit bd) (ra : decide (Rgt an ad) = true) (rb : decide (Rgt bn bd) = true) (hz : bn ≠ 0) (hok : (fb (an * bd) && fb (ad * bn)) = false) (VV : Value) (hV : VV = .tuple #[.agg #[.int .u64 (L0 0), .int .u64 (L1 0), .int .u64 (L2 0), .int .u64 (L3 0), .int .u64 (L0 0), .int .u64 (L1 0), .int .u64 (L2 0), .int .u64 (L3 0)], .int .i64 3]) (w : World) : Calls Tryd.prog 13 #[.int .i64 3, .agg #[.int .u64 (L0 an), .int .u64 (L1 an), .int .u64 (L2 an), .int .u64 (L3 an), .int .u64 (L0 ad), .int .u64 (L1 ad), .int .u64 (L2 ad), .int .u64 (L3 ad)], .agg #[.int .u64 (L0 bn), .int .u64 (L1 bn), .int .u64 (L2 bn), .int .u64 (L3 bn), .int .u64 (L0 bd), .int .u64 (L1 bd), .int .u64 (L2 bd), .int .u64 (L3 bd)]] w fun e w' => e = .returned VV ∧ Below w.heap.size w w' := by
  have EV := Lib.hid hV
  clear hV
  have FT := Lib.hid hok
  have HZ := Lib.hid hz
  clear hz
  have F_1 := Lib.hid (fun w => of_anyz an han w)
  have F_2 := Lib.hid (fun w => of_anyz ad had w)
  have F_3 := Lib.hid (fun w => of_anyz bn hbn w)
  have F_4 := Lib.hid (fun w => of_anyz bd hbd w)
  have RA := Lib.hid (fun w => ra ▸ rright_any han had w)
  have RB := Lib.hid (fun w => rb ▸ rright_any hbn hbd w)
  clear ra rb
  go_enter Tryd.func13, Tryd.ntmps13
  go_upto_region 1 with fail
  go_name_world W0 hW0
  have OA : Own W0 w.heap.size 34 #[.int .u64 (L0 an), .int .u64 (L1 an), .int .u64 (L2 an), .int .u64 (L3 an), .int .u64 (L0 ad), .int .u64 (L1 ad), .int .u64 (L2 ad), .int .u64 (L3 ad)] := hW0 ▸ (by repeat' (first | (with_reducible assumption) | (with_reducible refine Own.drawnN ?_ _) | (with_reducible refine Own.drawn ?_) | (with_reducible refine Own.made_at ?_; first | rfl | (simp; done) | omega | (simp; omega)) | (with_reducible refine Own.more ?_ _) | (with_reducible refine Own.apart ?_ ?_ _ _; rotate_left; first | omega | (simp; done) | (simp; omega)) | (refine Own.put ?_ _ _)))
  have OB : Own W0 (w.heap.size + 1) 34 #[.int .u64 (L0 bn), .int .u64 (L1 bn), .int .u64 (L2 bn), .int .u64 (L3 bn), .int .u64 (L0 bd), .int .u64 (L1 bd), .int .u64 (L2 bd), .int .u64 (L3 bd)] := hW0 ▸ (by repeat' (first | (with_reducible assumption) | (with_reducible refine Own.drawnN ?_ _) | (with_reducible refine Own.drawn ?_) | (with_reducible refine Own.made_at ?_; first | rfl | (simp; done) | omega | (simp; omega)) | (with_reducible refine Own.more ?_ _) | (with_reducible refine Own.apart ?_ ?_ _ _; rotate_left; first | omega | (simp; done) | (simp; omega)) | (refine Own.put ?_ _ _)))
  have OR : Own W0 (w.heap.size + 2) 34 #[.int .u64 0, .int .u64 0, .int .u64 0, .int .u64 0, .int .u64 0, .int .u64 0, .int .u64 0, .int .u64 0] := hW0 ▸ (by repeat' (first | (with_reducible assumption) | (with_reducible refine Own.drawnN ?_ _) | (with_reducible refine Own.drawn ?_) | (with_reducible refine Own.made_at ?_; first | rfl | (simp; done) | omega | (simp; omega)) | (with_reducible refine Own.more ?_ _) | (with_reducible refine Own.apart ?_ ?_ _ _; rotate_left; first | omega | (simp; done) | (simp; omega)) | (refine Own.put ?_ _ _)))
  have hB : Below w.heap.size w W0 := hW0 ▸ (by repeat' (first | (with_reducible exact Below.refl _ _) | (with_reducible assumption) | (with_reducible refine below_drewN ?_ _) | (with_reducible refine Below.drew ?_) | (with_reducible refine Below.alloc ?_ ?_ _) | (with_reducible refine Below.setCell ?_ ?_ _) | (with_reducible refine then_ ?_ (by with_reducible assumption) ?_) | (with_reducible exact Nat.le_refl _) | (with_reducible exact Nat.le_succ _) | (with_reducible exact Nat.le_succ_of_le (by with_reducible assumption)) | omega | (simp; done) | (simp; omega) | (exact Nat.le_succ _) | (exact Nat.le_succ_of_le (by with_reducible assumption))))
  clear hW0
  have z0 := OR.in_
  obtain ⟨P1, P2, P3⟩ := OA.at_
  obtain ⟨Q1, Q2, Q3⟩ := OB.at_
  go_upto_region 3 with (first
    | (go_at_call 15; with_reducible refine (RA.out _).mono ?_; rintro e w1 ⟨rfl, hb1⟩; have HB1 := Lib.hid hb1; clear hb1 P1 P2 P3 Q1 Q2 Q3; obtain ⟨Q1, Q2, Q3⟩ := (OB.keep HB1.out).at_)
    | (go_at_call 15; with_reducible refine (RB.out _).mono ?_; rintro e w2 ⟨rfl, hb2⟩; have HB2 := Lib.hid hb2; clear hb2 Q1 Q2 Q3))
  replace OA := (OA.keep HB1.out).keep HB2.out
  replace OB := (OB.keep HB1.out).keep HB2.out
  replace OR := (OR.keep HB1.out).keep HB2.out
  replace hB := then_ (then_ hB HB1.out hB.size) HB2.out (Nat.le_trans hB.size HB1.out.size)
  have z2 := OR.in_
  clear HB1 HB2 z0 RA RB
  have zi1_OA := OA.in_
  have zi1_OB := OB.in_
  have zi1_OR := OR.in_
  go_upto_region 3 with fail
  refine region_memon (L := [.val (.pointer (some ⟨w.heap.size, 0, none⟩)), .val (.agg #[.int .u64 (L0 an), .int .u64 (L1 an), .int .u64 (L2 an), .int .u64 (L3 an)]), .num (fun w v => NumP w (fun _ => True) v an), .val (.pointer (some ⟨w.heap.size, 4, none⟩)), .val (.agg #[.int .u64 (L0 ad), .int .u64 (L1 ad), .int .u64 (L2 ad), .int .u64 (L3 ad)]), .num (fun w v => NumP w (fun _ => True) v ad), .val (.pointer (some ⟨w.heap.size + 1, 0, none⟩)), .val (.agg #[.int .u64 (L0 bn), .int .u64 (L1 bn), .int .u64 (L2 bn), .int .u64 (L3 bn)]), .num (fun w v => NumP w (fun _ => True) v bn), .val (.pointer (some ⟨w.heap.size + 1, 4, none⟩)), .val (.agg #[.int .u64 (L0 bd), .int .u64 (L1 bd), .int .u64 (L2 bd), .int .u64 (L3 bd)]), .num (fun w v => NumP w (fun _ => True) v bd), .cell 59 #[.bool false, .slice none 0 0], .cell 59 #[.bool false, .slice none 0 0], .cell 59 #[.bool false, .slice none 0 0], .cell 59 #[.bool false, .slice none 0 0]]) (by kernel_rfl) (by kernel_rfl) ⟨fun _ _ _ h hb => NumP.keep h hb, ⟨fun _ _ _ h hb => NumP.keep h hb, ⟨fun _ _ _ h hb => NumP.keep h hb, ⟨fun _ _ _ h hb => NumP.keep h hb, trivial⟩⟩⟩⟩
    ⟨fun a w R => sv_ (fa_Q_0 (R.slot 4 rfl)), fun a w R => sv_ (ld_A (R.val 0) (OA.drawn.keep R.below) rfl rfl rfl rfl), fun a w R => cn_t (enter_at Tryd.func35) (R.val 1) (F_1.out _), fun a w R => sv_ (fa_Q_1 (R.slot 4 rfl)), fun a w R => sv_ (ld_A (R.val 3) (OA.drawn.keep R.below) rfl rfl rfl rfl), fun a w R => cn_t (enter_at Tryd.func35) (R.val 4) (F_2.out _), fun a w R => sv_ (fa_Q_0 (R.slot 5 rfl)), fun a w R => sv_ (ld_A (R.val 6) (OB.drawn.keep R.below) rfl rfl rfl rfl), fun a w R => cn_t (enter_at Tryd.func35) (R.val 7) (F_3.out _), fun a w R => sv_ (fa_Q_1 (R.slot 5 rfl)), fun a w R => sv_ (ld_A (R.val 9) (OB.drawn.keep R.below) rfl rfl rfl rfl), fun a w R => cn_t (enter_at Tryd.func35) (R.val 10) (F_4.out _), fun a w R => (by show _ = _; simp [go_sem, execOp]), fun a w R => (by show _ = _; simp [go_sem, execOp]), fun a w R => (by show _ = _; simp [go_sem, execOp]), fun a w R => (by show _ = _; simp [go_sem, execOp]), trivial⟩ (fun act_ V1 I => ?_)
  obtain ⟨v_p, ev29, hn⟩ := I.num 2 (ltb rfl)
  obtain ⟨s_p, a_p, l_p, c_p, rfl⟩ := hn.shape
  have N_p := hn
  clear hn
  obtain ⟨v_q, ev32, hn⟩ := I.num 5 (ltb rfl)
  obtain ⟨s_q, a_q, l_q, c_q, rfl⟩ := hn.shape
  have N_q := hn
  clear hn
  obtain ⟨v_r, ev35, hn⟩ := I.num 8 (ltb rfl)
  obtain ⟨s_r, a_r, l_r, c_r, rfl⟩ := hn.shape
  have N_r := hn
  clear hn
  obtain ⟨v_s, ev38, hn⟩ := I.num 11 (ltb rfl)
  obtain ⟨s_s, a_s, l_s, c_s, rfl⟩ := hn.shape
  have N_s := hn
  clear hn
  obtain ⟨g8, eg8, lg8, O_8⟩ := I.cell 12 (ltb rfl)
  obtain ⟨g9, eg9, lg9, O_9⟩ := I.cell 13 (ltb rfl)
  obtain ⟨g10, eg10, lg10, O_10⟩ := I.cell 14 (ltb rfl)
  obtain ⟨g11, eg11, lg11, O_11⟩ := I.cell 15 (ltb rfl)
  have ng8_9 := I.apart2 12 13 (ltb rfl) (ltb rfl) (by decide) eg8 eg9
  have ng8_10 := I.apart2 12 14 (ltb rfl) (ltb rfl) (by decide) eg8 eg10
  have ng8_11 := I.apart2 12 15 (ltb rfl) (ltb rfl) (by decide) eg8 eg11
  have ng9_10 := I.apart2 13 14 (ltb rfl) (ltb rfl) (by decide) eg9 eg10
  have ng9_11 := I.apart2 13 15 (ltb rfl) (ltb rfl) (by decide) eg9 eg11
  have ng10_11 := I.apart2 14 15 (ltb rfl) (ltb rfl) (by decide) eg10 eg11
  rw [I.act [(27, (.pointer (some ⟨w.heap.size, 0, none⟩))), (28, (.agg #[.int .u64 (L0 an), .int .u64 (L1 an), .int .u64 (L2 an), .int .u64 (L3 an)])), (29, .agg #[.bool s_p, .slice a_p l_p c_p]), (30, (.pointer (some ⟨w.heap.size, 4, none⟩))), (31, (.agg #[.int .u64 (L0 ad), .int .u64 (L1 ad), .int .u64 (L2 ad), .int .u64 (L3 ad)])), (32, .agg #[.bool s_q, .slice a_q l_q c_q]), (33, (.pointer (some ⟨w.heap.size + 1, 0, none⟩))), (34, (.agg #[.int .u64 (L0 bn), .int .u64 (L1 bn), .int .u64 (L2 bn), .int .u64 (L3 bn)])), (35, .agg #[.bool s_r, .slice a_r l_r c_r]), (36, (.pointer (some ⟨w.heap.size + 1, 4, none⟩))), (37, (.agg #[.int .u64 (L0 bd), .int .u64 (L1 bd), .int .u64 (L2 bd), .int .u64 (L3 bd)])), (38, .agg #[.bool s_s, .slice a_s l_s c_s]), (8, .pointer (some ⟨g8, 0, none⟩)), (9, .pointer (some ⟨g9, 0, none⟩)), (10, .pointer (some ⟨g10, 0, none⟩)), (11, .pointer (some ⟨g11, 0, none⟩))]
    ⟨I.val 0 (ltb rfl), I.val 1 (ltb rfl), ev29, I.val 3 (ltb rfl), I.val 4 (ltb rfl), ev32, I.val 6 (ltb rfl), I.val 7 (ltb rfl), ev35, I.val 9 (ltb rfl), I.val 10 (ltb rfl), ev38, eg8, eg9, eg10, eg11, trivial⟩ rfl]
  have hb_ : Below w2.drew.heap.size w2.drew V1 := I.below
  change w2.heap.size ≤ g8 at lg8
  change w2.heap.size ≤ g9 at lg9
  change w2.heap.size ≤ g10 at lg10
  change w2.heap.size ≤ g11 at lg11
  clear I eg8 eg9 eg10 eg11 ev29 ev32 ev35 ev38
  simp only [List.foldl_cons, List.foldl_nil, List.setIfInBounds_toArray, List.set_cons_zero, List.set_cons_succ]
  replace OA := OA.drawn.keep hb_
  replace OB := OB.drawn.keep hb_
  replace OR := OR.drawn.keep hb_
  replace hB := then_ hB.drew hb_ hB.size
  clear hb_
  have M_p := Lib.hid N_p
  clear N_p
  have M_q := Lib.hid N_q
  clear N_q
  have M_r := Lib.hid N_r
  clear N_r
  have M_s := Lib.hid N_s
  clear N_s
  refine tree_one (i := 16) (by kernel_rfl) rfl ⟨_, rfl, fun K hK => ?_⟩
  obtain ⟨P1, P2, P3⟩ := O_8.at_
  go_wp2
  clear P1 P2 P3
  refine hK _ _ trivial ?_
  clear hK K
  obtain ⟨V2, hX⟩ : ∃ X, (V1.setCell ⟨g8, 0, none⟩ (.bool s_p)).setCell ⟨g8, 1, none⟩ (.slice a_p l_p c_p) = X := ⟨_, rfl⟩
  rw [hX]
  have M_p_ := Lib.hid (hX ▸ (((M_p.out.aside O_8).put (p := g8) (i := 0) (by rintro ⟨_, h⟩; exact h rfl) (.bool s_p)).put (p := g8) (i := 1) (by rintro ⟨_, h⟩; exact h rfl) (.slice a_p l_p c_p)).mono (S' := fun _ => True) (fun _ _ _ => trivial))
  have M_q_ := Lib.hid (hX ▸ (((M_q.out.aside O_8).put (p := g8) (i := 0) (by rintro ⟨_, h⟩; exact h rfl) (.bool s_p)).put (p := g8) (i := 1) (by rintro ⟨_, h⟩; exact h rfl) (.slice a_p l_p c_p)).mono (S' := fun _ => True) (fun _ _ _ => trivial))
  have M_r_ := Lib.hid (hX ▸ (((M_r.out.aside O_8).put (p := g8) (i := 0) (by rintro ⟨_, h⟩; exact h rfl) (.bool s_p)).put (p := g8) (i := 1) (by rintro ⟨_, h⟩; exact h rfl) (.slice a_p l_p c_p)).mono (S' := fun _ => True) (fun _ _ _ => trivial))
  have M_s_ := Lib.hid (hX ▸ (((M_s.out.aside O_8).put (p := g8) (i := 0) (by rintro ⟨_, h⟩; exact h rfl) (.bool s_p)).put (p := g8) (i := 1) (by rintro ⟨_, h⟩; exact h rfl) (.slice a_p l_p c_p)).mono (S' := fun _ => True) (fun _ _ _ => trivial))
  have OA_ := hX ▸ ((OA.apart (q := g8) (by omega) 0 (.bool s_p)).apart (q := g8) (by omega) 1 (.slice a_p l_p c_p))
  have OB_ := hX ▸ ((OB.apart (q := g8) (by omega) 0 (.bool s_p)).apart (q := g8) (by omega) 1 (.slice a_p l_p c_p))
  have OR_ := hX ▸ ((OR.apart (q := g8) (by omega) 0 (.bool s_p)).apart (q := g8) (by omega) 1 (.slice a_p l_p c_p))
  have O_8_ : Own V2 g8 59 #[.bool s_p, .slice a_p l_p c_p] := hX ▸ (((O_8.put 0 _).put 1 _).as rfl)
  have O_9_ := hX ▸ ((O_9.apart (q := g8) (by omega) 0 (.bool s_p)).apart (q := g8) (by omega) 1 (.slice a_p l_p c_p))
  have O_10_ := hX ▸ ((O_10.apart (q := g8) (by omega) 0 (.bool s_p)).apart (q := g8) (by omega) 1 (.slice a_p l_p c_p))
  have O_11_ := hX ▸ ((O_11.apart (q := g8) (by omega) 0 (.bool s_p)).apart (q := g8) (by omega) 1 (.slice a_p l_p c_p))
  have hB_ : Below w.heap.size w V2 := hX ▸ ((hB.setCell (by show w.heap.size ≤ g8; omega) _).setCell (by show w.heap.size ≤ g8; omega) _)
  clear hX M_p M_q M_r M_s OA OB OR O_8 O_9 O_10 O_11 hB
  have M_p := M_p_
  have M_q := M_q_
  have M_r := M_r_
  have M_s := M_s_
  have OA := OA_
  have OB := OB_
  have OR := OR_
  have O_8 := O_8_
  have O_9 := O_9_
  have O_10 := O_10_
  have O_11 := O_11_
  have hB := hB_
  clear M_p_ M_q_ M_r_ M_s_ OA_ OB_ OR_ O_8_ O_9_ O_10_ O_11_ hB_
  refine tree_one (i := 17) (by kernel_rfl) rfl ⟨_, rfl, fun K hK => ?_⟩
  obtain ⟨P1, P2, P3⟩ := O_9.at_
  go_wp2
  clear P1 P2 P3
  refine hK _ _ trivial ?_
  clear hK K
  obtain ⟨V3, hX⟩ : ∃ X, (V2.setCell ⟨g9, 0, none⟩ (.bool s_q)).setCell ⟨g9, 1, none⟩ (.slice a_q l_q c_q) = X := ⟨_, rfl⟩
  rw [hX]
  have M_p_ := Lib.hid (hX ▸ (((M_p.out.aside O_9).put (p := g9) (i := 0) (by rintro ⟨_, h⟩; exact h rfl) (.bool s_q)).put (p := g9) (i := 1) (by rintro ⟨_, h⟩; exact h rfl) (.slice a_q l_q c_q)).mono (S' := fun _ => True) (fun _ _ _ => trivial))
  have M_q_ := Lib.hid (hX ▸ (((M_q.out.aside O_9).put (p := g9) (i := 0) (by rintro ⟨_, h⟩; exact h rfl) (.bool s_q)).put (p := g9) (i := 1) (by rintro ⟨_, h⟩; exact h rfl) (.slice a_q l_q c_q)).mono (S' := fun _ => True) (fun _ _ _ => trivial))
  have M_r_ := Lib.hid (hX ▸ (((M_r.out.aside O_9).put (p := g9) (i := 0) (by rintro ⟨_, h⟩; exact h rfl) (.bool s_q)).put (p := g9) (i := 1) (by rintro ⟨_, h⟩; exact h rfl) (.slice a_q l_q c_q)).mono (S' := fun _ => True) (fun _ _ _ => trivial))
  have M_s_ := Lib.hid (hX ▸ (((M_s.out.aside O_9).put (p := g9) (i := 0) (by rintro ⟨_, h⟩; exact h rfl) (.bool s_q)).put (p := g9) (i := 1) (by rintro ⟨_, h⟩; exact h rfl) (.slice a_q l_q c_q)).mono (S' := fun _ => True) (fun _ _ _ => trivial))
  have OA_ := hX ▸ ((OA.apart (q := g9) (by omega) 0 (.bool s_q)).apart (q := g9) (by omega) 1 (.slice a_q l_q c_q))
  have OB_ := hX ▸ ((OB.apart (q := g9) (by omega) 0 (.bool s_q)).apart (q := g9) (by omega) 1 (.slice a_q l_q c_q))
  have OR_ := hX ▸ ((OR.apart (q := g9) (by omega) 0 (.bool s_q)).apart (q := g9) (by omega) 1 (.slice a_q l_q c_q))
  have O_8_ := hX ▸ ((O_8.apart (q := g9) (by omega) 0 (.bool s_q)).apart (q := g9) (by omega) 1 (.slice a_q l_q c_q))
  have O_9_ : Own V3 g9 59 #[.bool s_q, .slice a_q l_q c_q] := hX ▸ (((O_9.put 0 _).put 1 _).as rfl)
  have O_10_ := hX ▸ ((O_10.apart (q := g9) (by omega) 0 (.bool s_q)).apart (q := g9) (by omega) 1 (.slice a_q l_q c_q))
  have O_11_ := hX ▸ ((O_11.apart (q := g9) (by omega) 0 (.bool s_q)).apart (q := g9) (by omega) 1 (.slice a_q l_q c_q))
  have hB_ : Below w.heap.size w V3 := hX ▸ ((hB.setCell (by show w.heap.size ≤ g9; omega) _).setCell (by show w.heap.size ≤ g9; omega) _)
  clear hX M_p M_q M_r M_s OA OB OR O_8 O_9 O_10 O_11 hB
  have M_p := M_p_
  have M_q := M_q_
  have M_r := M_r_
  have M_s := M_s_
  have OA := OA_
  have OB := OB_
  have OR := OR_
  have O_8 := O_8_
  have O_9 := O_9_
  have O_10 := O_10_
  have O_11 := O_11_
  have hB := hB_
  clear M_p_ M_q_ M_r_ M_s_ OA_ OB_ OR_ O_8_ O_9_ O_10_ O_11_ hB_
  refine tree_one (i := 18) (by kernel_rfl) rfl ⟨_, rfl, fun K hK => ?_⟩
  obtain ⟨P1, P2, P3⟩ := O_10.at_
  go_wp2
  clear P1 P2 P3
  refine hK _ _ trivial ?_
  clear hK K
  obtain ⟨V4, hX⟩ : ∃ X, (V3.setCell ⟨g10, 0, none⟩ (.bool s_r)).setCell ⟨g10, 1, none⟩ (.slice a_r l_r c_r) = X := ⟨_, rfl⟩
  rw [hX]
  have M_p_ := Lib.hid (hX ▸ (((M_p.out.aside O_10).put (p := g10) (i := 0) (by rintro ⟨_, h⟩; exact h rfl) (.bool s_r)).put (p := g10) (i := 1) (by rintro ⟨_, h⟩; exact h rfl) (.slice a_r l_r c_r)).mono (S' := fun _ => True) (fun _ _ _ => trivial))
  have M_q_ := Lib.hid (hX ▸ (((M_q.out.aside O_10).put (p := g10) (i := 0) (by rintro ⟨_, h⟩; exact h rfl) (.bool s_r)).put (p := g10) (i := 1) (by rintro ⟨_, h⟩; exact h rfl) (.slice a_r l_r c_r)).mono (S' := fun _ => True) (fun _ _ _ => trivial))
  have M_r_ := Lib.hid (hX ▸ (((M_r.out.aside O_10).put (p := g10) (i := 0) (by rintro ⟨_, h⟩; exact h rfl) (.bool s_r)).put (p := g10) (i := 1) (by rintro ⟨_, h⟩; exact h rfl) (.slice a_r l_r c_r)).mono (S' := fun _ => True) (fun _ _ _ => trivial))
  have M_s_ := Lib.hid (hX ▸ (((M_s.out.aside O_10).put (p := g10) (i := 0) (by rintro ⟨_, h⟩; exact h rfl) (.bool s_r)).put (p := g10) (i := 1) (by rintro ⟨_, h⟩; exact h rfl) (.slice a_r l_r c_r)).mono (S' := fun _ => True) (fun _ _ _ => trivial))
  have OA_ := hX ▸ ((OA.apart (q := g10) (by omega) 0 (.bool s_r)).apart (q := g10) (by omega) 1 (.slice a_r l_r c_r))
  have OB_ := hX ▸ ((OB.apart (q := g10) (by omega) 0 (.bool s_r)).apart (q := g10) (by omega) 1 (.slice a_r l_r c_r))
  have OR_ := hX ▸ ((OR.apart (q := g10) (by omega) 0 (.bool s_r)).apart (q := g10) (by omega) 1 (.slice a_r l_r c_r))
  have O_8_ := hX ▸ ((O_8.apart (q := g10) (by omega) 0 (.bool s_r)).apart (q := g10) (by omega) 1 (.slice a_r l_r c_r))
  have O_9_ := hX ▸ ((O_9.apart (q := g10) (by omega) 0 (.bool s_r)).apart (q := g10) (by omega) 1 (.slice a_r l_r c_r))
  have O_10_ : Own V4 g10 59 #[.bool s_r, .slice a_r l_r c_r] := hX ▸ (((O_10.put 0 _).put 1 _).as rfl)
  have O_11_ := hX ▸ ((O_11.apart (q := g10) (by omega) 0 (.bool s_r)).apart (q := g10) (by omega) 1 (.slice a_r l_r c_r))
  have hB_ : Below w.heap.size w V4 := hX ▸ ((hB.setCell (by show w.heap.size ≤ g10; omega) _).setCell (by show w.heap.size ≤ g10; omega) _)
  clear hX M_p M_q M_r M_s OA OB OR O_8 O_9 O_10 O_11 hB
  have M_p := M_p_
  have M_q := M_q_
  have M_r := M_r_
  have M_s := M_s_
  have OA := OA_
  have OB := OB_
  have OR := OR_
  have O_8 := O_8_
  have O_9 := O_9_
  have O_10 := O_10_
  have O_11 := O_11_
  have hB := hB_
  clear M_p_ M_q_ M_r_ M_s_ OA_ OB_ OR_ O_8_ O_9_ O_10_ O_11_ hB_
  refine tree_one (i := 19) (by kernel_rfl) rfl ⟨_, rfl, fun K hK => ?_⟩
  obtain ⟨P1, P2, P3⟩ := O_11.at_
  go_wp2
  clear P1 P2 P3
  refine hK _ _ trivial ?_
  clear hK K
  obtain ⟨V5, hX⟩ : ∃ X, (V4.setCell ⟨g11, 0, none⟩ (.bool s_s)).setCell ⟨g11, 1, none⟩ (.slice a_s l_s c_s) = X := ⟨_, rfl⟩
  rw [hX]
  have M_p_ := Lib.hid (hX ▸ (((M_p.out.aside O_11).put (p := g11) (i := 0) (by rintro ⟨_, h⟩; exact h rfl) (.bool s_s)).put (p := g11) (i := 1) (by rintro ⟨_, h⟩; exact h rfl) (.slice a_s l_s c_s)).mono (S' := fun _ => True) (fun _ _ _ => trivial))
  have M_q_ := Lib.hid (hX ▸ (((M_q.out.aside O_11).put (p := g11) (i := 0) (by rintro ⟨_, h⟩; exact h rfl) (.bool s_s)).put (p := g11) (i := 1) (by rintro ⟨_, h⟩; exact h rfl) (.slice a_s l_s c_s)).mono (S' := fun _ => True) (fun _ _ _ => trivial))
  have M_r_ := Lib.hid (hX ▸ (((M_r.out.aside O_11).put (p := g11) (i := 0) (by rintro ⟨_, h⟩; exact h rfl) (.bool s_s)).put (p := g11) (i := 1) (by rintro ⟨_, h⟩; exact h rfl) (.slice a_s l_s c_s)).mono (S' := fun _ => True) (fun _ _ _ => trivial))
  have M_s_ := Lib.hid (hX ▸ (((M_s.out.aside O_11).put (p := g11) (i := 0) (by rintro ⟨_, h⟩; exact h rfl) (.bool s_s)).put (p := g11) (i := 1) (by rintro ⟨_, h⟩; exact h rfl) (.slice a_s l_s c_s)).mono (S' := fun _ => True) (fun _ _ _ => trivial))
  have OA_ := hX ▸ ((OA.apart (q := g11) (by omega) 0 (.bool s_s)).apart (q := g11) (by omega) 1 (.slice a_s l_s c_s))
  have OB_ := hX ▸ ((OB.apart (q := g11) (by omega) 0 (.bool s_s)).apart (q := g11) (by omega) 1 (.slice a_s l_s c_s))
  have OR_ := hX ▸ ((OR.apart (q := g11) (by omega) 0 (.bool s_s)).apart (q := g11) (by omega) 1 (.slice a_s l_s c_s))
  have O_8_ := hX ▸ ((O_8.apart (q := g11) (by omega) 0 (.bool s_s)).apart (q := g11) (by omega) 1 (.slice a_s l_s c_s))
  have O_9_ := hX ▸ ((O_9.apart (q := g11) (by omega) 0 (.bool s_s)).apart (q := g11) (by omega) 1 (.slice a_s l_s c_s))
  have O_10_ := hX ▸ ((O_10.apart (q := g11) (by omega) 0 (.bool s_s)).apart (q := g11) (by omega) 1 (.slice a_s l_s c_s))
  have O_11_ : Own V5 g11 59 #[.bool s_s, .slice a_s l_s c_s] := hX ▸ (((O_11.put 0 _).put 1 _).as rfl)
  have hB_ : Below w.heap.size w V5 := hX ▸ ((hB.setCell (by show w.heap.size ≤ g11; omega) _).setCell (by show w.heap.size ≤ g11; omega) _)
  clear hX M_p M_q M_r M_s OA OB OR O_8 O_9 O_10 O_11 hB
  have M_p := M_p_
  have M_q := M_q_
  have M_r := M_r_
  have M_s := M_s_
  have OA := OA_
  have OB := OB_
  have OR := OR_
  have O_8 := O_8_
  have O_9 := O_9_
  have O_10 := O_10_
  have O_11 := O_11_
  have hB := hB_
  clear M_p_ M_q_ M_r_ M_s_ OA_ OB_ OR_ O_8_ O_9_ O_10_ O_11_ hB_
  refine tree_end (by kernel_rfl) ?_
  clear F_1 F_2 F_3 F_4 OA OB
  have hl := num_len M_r.out HZ.out
  go_upto_region 5 with fail
  obtain ⟨P1, P2, P3⟩ := O_10.at_
  go_upto_region 7 with fail
  clear P1 P2 P3 hl
  have zi6_OR := OR.in_
  have zi6_O_8 := O_8.in_
  have zi6_O_9 := O_9.in_
  have zi6_O_10 := O_10.in_
  have zi6_O_11 := O_11.in_
  go_upto_region 7 with fail
  refine region_memon (L := [.val (.agg #[.bool s_p, .slice a_p l_p c_p]), .val (.agg #[.bool s_s, .slice a_s l_s c_s]), .num (fun w v => NumP w (fun _ => True) v (an * bd)), .val (.agg #[.bool s_q, .slice a_q l_q c_q]), .val (.agg #[.bool s_r, .slice a_r l_r c_r]), .num (fun w v => NumP w (fun _ => True) v (ad * bn)), .cell 59 #[.bool false, .slice none 0 0], .cell 59 #[.bool false, .slice none 0 0]]) (by kernel_rfl) (by kernel_rfl) ⟨fun _ _ _ h hb => NumP.keep h hb, ⟨fun _ _ _ h hb => NumP.keep h hb, trivial⟩⟩
    ⟨fun a w R => sv_ (ld_N (R.slot 8 rfl) (O_8.drawn.keep R.below) rfl rfl), fun a w R => sv_ (ld_N (R.slot 11 rfl) (O_11.drawn.keep R.below) rfl rfl), fun a w R => cn_tt (enter_at Tryd.func36) (R.val 0) (R.val 1) (mul_P han hbd _ ((M_p.out.keep (Below.refl _ _).drew).keep R.below) ((M_s.out.keep (Below.refl _ _).drew).keep R.below)), fun a w R => sv_ (ld_N (R.slot 9 rfl) (O_9.drawn.keep R.below) rfl rfl), fun a w R => sv_ (ld_N (R.slot 10 rfl) (O_10.drawn.keep R.below) rfl rfl), fun a w R => cn_tt (enter_at Tryd.func36) (R.val 3) (R.val 4) (mul_P had hbn _ ((M_q.out.keep (Below.refl _ _).drew).keep R.below) ((M_r.out.keep (Below.refl _ _).drew).keep R.below)), fun a w R => (by show _ = _; simp [go_sem, execOp]), fun a w R => (by show _ = _; simp [go_sem, execOp]), trivial⟩ (fun act_ V6 I => ?_)
  obtain ⟨v_x, ev48, hn⟩ := I.num 2 (ltb rfl)
  obtain ⟨s_x, a_x, l_x, c_x, rfl⟩ := hn.shape
  have N_x := hn
  clear hn
  obtain ⟨v_y, ev51, hn⟩ := I.num 5 (ltb rfl)
  obtain ⟨s_y, a_y, l_y, c_y, rfl⟩ := hn.shape
  have N_y := hn
  clear hn
  obtain ⟨g12, eg12, lg12, O_12⟩ := I.cell 6 (ltb rfl)
  obtain ⟨g13, eg13, lg13, O_13⟩ := I.cell 7 (ltb rfl)
  have ng12_13 := I.apart2 6 7 (ltb rfl) (ltb rfl) (by decide) eg12 eg13
  rw [I.act [(46, (.agg #[.bool s_p, .slice a_p l_p c_p])), (47, (.agg #[.bool s_s, .slice a_s l_s c_s])), (48, .agg #[.bool s_x, .slice a_x l_x c_x]), (49, (.agg #[.bool s_q, .slice a_q l_q c_q])), (50, (.agg #[.bool s_r, .slice a_r l_r c_r])), (51, .agg #[.bool s_y, .slice a_y l_y c_y]), (12, .pointer (some ⟨g12, 0, none⟩)), (13, .pointer (some ⟨g13, 0, none⟩))]
    ⟨I.val 0 (ltb rfl), I.val 1 (ltb rfl), ev48, I.val 3 (ltb rfl), I.val 4 (ltb rfl), ev51, eg12, eg13, trivial⟩ rfl]
  have hb_ : Below V5.drew.heap.size V5.drew V6 := I.below
  change V5.heap.size ≤ g12 at lg12
  change V5.heap.size ≤ g13 at lg13
  clear I eg12 eg13 ev48 ev51
  simp only [List.foldl_cons, List.foldl_nil, List.setIfInBounds_toArray, List.set_cons_zero, List.set_cons_succ]
  replace OR := OR.drawn.keep hb_
  replace O_8 := O_8.drawn.keep hb_
  replace O_9 := O_9.drawn.keep hb_
  replace O_10 := O_10.drawn.keep hb_
  replace O_11 := O_11.drawn.keep hb_
  replace M_p := Lib.hid ((M_p.out.keep (Below.refl _ _).drew).keep hb_)
  replace M_q := Lib.hid ((M_q.out.keep (Below.refl _ _).drew).keep hb_)
  replace M_r := Lib.hid ((M_r.out.keep (Below.refl _ _).drew).keep hb_)
  replace M_s := Lib.hid ((M_s.out.keep (Below.refl _ _).drew).keep hb_)
  replace hB := then_ hB.drew hb_ hB.size
  clear hb_
  have M_x := Lib.hid N_x
  clear N_x
  have M_y := Lib.hid N_y
  clear N_y
  refine tree_one (i := 8) (by kernel_rfl) rfl ⟨_, rfl, fun K hK => ?_⟩
  obtain ⟨P1, P2, P3⟩ := O_12.at_
  go_wp2
  clear P1 P2 P3
  refine hK _ _ trivial ?_
  clear hK K
  obtain ⟨V7, hX⟩ : ∃ X, (V6.setCell ⟨g12, 0, none⟩ (.bool s_x)).setCell ⟨g12, 1, none⟩ (.slice a_x l_x c_x) = X := ⟨_, rfl⟩
  rw [hX]
  have M_p_ := Lib.hid (hX ▸ (((M_p.out.aside O_12).put (p := g12) (i := 0) (by rintro ⟨_, h⟩; exact h rfl) (.bool s_x)).put (p := g12) (i := 1) (by rintro ⟨_, h⟩; exact h rfl) (.slice a_x l_x c_x)).mono (S' := fun _ => True) (fun _ _ _ => trivial))
  have M_q_ := Lib.hid (hX ▸ (((M_q.out.aside O_12).put (p := g12) (i := 0) (by rintro ⟨_, h⟩; exact h rfl) (.bool s_x)).put (p := g12) (i := 1) (by rintro ⟨_, h⟩; exact h rfl) (.slice a_x l_x c_x)).mono (S' := fun _ => True) (fun _ _ _ => trivial))
  have M_r_ := Lib.hid (hX ▸ (((M_r.out.aside O_12).put (p := g12) (i := 0) (by rintro ⟨_, h⟩; exact h rfl) (.bool s_x)).put (p := g12) (i := 1) (by rintro ⟨_, h⟩; exact h rfl) (.slice a_x l_x c_x)).mono (S' := fun _ => True) (fun _ _ _ => trivial))
  have M_s_ := Lib.hid (hX ▸ (((M_s.out.aside O_12).put (p := g12) (i := 0) (by rintro ⟨_, h⟩; exact h rfl) (.bool s_x)).put (p := g12) (i := 1) (by rintro ⟨_, h⟩; exact h rfl) (.slice a_x l_x c_x)).mono (S' := fun _ => True) (fun _ _ _ => trivial))
  have M_x_ := Lib.hid (hX ▸ (((M_x.out.aside O_12).put (p := g12) (i := 0) (by rintro ⟨_, h⟩; exact h rfl) (.bool s_x)).put (p := g12) (i := 1) (by rintro ⟨_, h⟩; exact h rfl) (.slice a_x l_x c_x)).mono (S' := fun _ => True) (fun _ _ _ => trivial))
  have M_y_ := Lib.hid (hX ▸ (((M_y.out.aside O_12).put (p := g12) (i := 0) (by rintro ⟨_, h⟩; exact h rfl) (.bool s_x)).put (p := g12) (i := 1) (by rintro ⟨_, h⟩; exact h rfl) (.slice a_x l_x c_x)).mono (S' := fun _ => True) (fun _ _ _ => trivial))
  have OR_ := hX ▸ ((OR.apart (q := g12) (by omega) 0 (.bool s_x)).apart (q := g12) (by omega) 1 (.slice a_x l_x c_x))
  have O_8_ := hX ▸ ((O_8.apart (q := g12) (by omega) 0 (.bool s_x)).apart (q := g12) (by omega) 1 (.slice a_x l_x c_x))
  have O_9_ := hX ▸ ((O_9.apart (q := g12) (by omega) 0 (.bool s_x)).apart (q := g12) (by omega) 1 (.slice a_x l_x c_x))
  have O_10_ := hX ▸ ((O_10.apart (q := g12) (by omega) 0 (.bool s_x)).apart (q := g12) (by omega) 1 (.slice a_x l_x c_x))
  have O_11_ := hX ▸ ((O_11.apart (q := g12) (by omega) 0 (.bool s_x)).apart (q := g12) (by omega) 1 (.slice a_x l_x c_x))
  have O_12_ : Own V7 g12 59 #[.bool s_x, .slice a_x l_x c_x] := hX ▸ (((O_12.put 0 _).put 1 _).as rfl)
  have O_13_ := hX ▸ ((O_13.apart (q := g12) (by omega) 0 (.bool s_x)).apart (q := g12) (by omega) 1 (.slice a_x l_x c_x))
  have hB_ : Below w.heap.size w V7 := hX ▸ ((hB.setCell (by show w.heap.size ≤ g12; omega) _).setCell (by show w.heap.size ≤ g12; omega) _)
  clear hX M_p M_q M_r M_s M_x M_y OR O_8 O_9 O_10 O_11 O_12 O_13 hB
  have M_p := M_p_
  have M_q := M_q_
  have M_r := M_r_
  have M_s := M_s_
  have M_x := M_x_
  have M_y := M_y_
  have OR := OR_
  have O_8 := O_8_
  have O_9 := O_9_
  have O_10 := O_10_
  have O_11 := O_11_
  have O_12 := O_12_
  have O_13 := O_13_
  have hB := hB_
  clear M_p_ M_q_ M_r_ M_s_ M_x_ M_y_ OR_ O_8_ O_9_ O_10_ O_11_ O_12_ O_13_ hB_
  refine tree_one (i := 9) (by kernel_rfl) rfl ⟨_, rfl, fun K hK => ?_⟩
  obtain ⟨P1, P2, P3⟩ := O_13.at_
  go_wp2
  clear P1 P2 P3
  refine hK _ _ trivial ?_
  clear hK K
  obtain ⟨V8, hX⟩ : ∃ X, (V7.setCell ⟨g13, 0, none⟩ (.bool s_y)).setCell ⟨g13, 1, none⟩ (.slice a_y l_y c_y) = X := ⟨_, rfl⟩
  rw [hX]
  have M_p_ := Lib.hid (hX ▸ (((M_p.out.aside O_13).put (p := g13) (i := 0) (by rintro ⟨_, h⟩; exact h rfl) (.bool s_y)).put (p := g13) (i := 1) (by rintro ⟨_, h⟩; exact h rfl) (.slice a_y l_y c_y)).mono (S' := fun _ => True) (fun _ _ _ => trivial))
  have M_q_ := Lib.hid (hX ▸ (((M_q.out.aside O_13).put (p := g13) (i := 0) (by rintro ⟨_, h⟩; exact h rfl) (.bool s_y)).put (p := g13) (i := 1) (by rintro ⟨_, h⟩; exact h rfl) (.slice a_y l_y c_y)).mono (S' := fun _ => True) (fun _ _ _ => trivial))
  have M_r_ := Lib.hid (hX ▸ (((M_r.out.aside O_13).put (p := g13) (i := 0) (by rintro ⟨_, h⟩; exact h rfl) (.bool s_y)).put (p := g13) (i := 1) (by rintro ⟨_, h⟩; exact h rfl) (.slice a_y l_y c_y)).mono (S' := fun _ => True) (fun _ _ _ => trivial))
  have M_s_ := Lib.hid (hX ▸ (((M_s.out.aside O_13).put (p := g13) (i := 0) (by rintro ⟨_, h⟩; exact h rfl) (.bool s_y)).put (p := g13) (i := 1) (by rintro ⟨_, h⟩; exact h rfl) (.slice a_y l_y c_y)).mono (S' := fun _ => True) (fun _ _ _ => trivial))
  have M_x_ := Lib.hid (hX ▸ (((M_x.out.aside O_13).put (p := g13) (i := 0) (by rintro ⟨_, h⟩; exact h rfl) (.bool s_y)).put (p := g13) (i := 1) (by rintro ⟨_, h⟩; exact h rfl) (.slice a_y l_y c_y)).mono (S' := fun _ => True) (fun _ _ _ => trivial))
  have M_y_ := Lib.hid (hX ▸ (((M_y.out.aside O_13).put (p := g13) (i := 0) (by rintro ⟨_, h⟩; exact h rfl) (.bool s_y)).put (p := g13) (i := 1) (by rintro ⟨_, h⟩; exact h rfl) (.slice a_y l_y c_y)).mono (S' := fun _ => True) (fun _ _ _ => trivial))
  have OR_ := hX ▸ ((OR.apart (q := g13) (by omega) 0 (.bool s_y)).apart (q := g13) (by omega) 1 (.slice a_y l_y c_y))
  have O_8_ := hX ▸ ((O_8.apart (q := g13) (by omega) 0 (.bool s_y)).apart (q := g13) (by omega) 1 (.slice a_y l_y c_y))
  have O_9_ := hX ▸ ((O_9.apart (q := g13) (by omega) 0 (.bool s_y)).apart (q := g13) (by omega) 1 (.slice a_y l_y c_y))
  have O_10_ := hX ▸ ((O_10.apart (q := g13) (by omega) 0 (.bool s_y)).apart (q := g13) (by omega) 1 (.slice a_y l_y c_y))
  have O_11_ := hX ▸ ((O_11.apart (q := g13) (by omega) 0 (.bool s_y)).apart (q := g13) (by omega) 1 (.slice a_y l_y c_y))
  have O_12_ := hX ▸ ((O_12.apart (q := g13) (by omega) 0 (.bool s_y)).apart (q := g13) (by omega) 1 (.slice a_y l_y c_y))
  have O_13_ : Own V8 g13 59 #[.bool s_y, .slice a_y l_y c_y] := hX ▸ (((O_13.put 0 _).put 1 _).as rfl)
  have hB_ : Below w.heap.size w V8 := hX ▸ ((hB.setCell (by show w.heap.size ≤ g13; omega) _).setCell (by show w.heap.size ≤ g13; omega) _)
  clear hX M_p M_q M_r M_s M_x M_y OR O_8 O_9 O_10 O_11 O_12 O_13 hB
  have M_p := M_p_
  have M_q := M_q_
  have M_r := M_r_
  have M_s := M_s_
  have M_x := M_x_
  have M_y := M_y_
  have OR := OR_
  have O_8 := O_8_
  have O_9 := O_9_
  have O_10 := O_10_
  have O_11 := O_11_
  have O_12 := O_12_
  have O_13 := O_13_
  have hB := hB_
  clear M_p_ M_q_ M_r_ M_s_ M_x_ M_y_ OR_ O_8_ O_9_ O_10_ O_11_ O_12_ O_13_ hB_
  refine tree_end (by kernel_rfl) ?_
  go_upto_region 8 with fail
  obtain ⟨P1, P2, P3⟩ := O_12.at_
  obtain ⟨Q1, Q2, Q3⟩ := O_13.at_
  go_upto_region 9 with (go_at_call 37; refine (fit_is (x := an * bd) (y := ad * bn) FT.out _ (by repeat' (first | (with_reducible assumption) | (with_reducible refine Own.drawnN ?_ _) | (with_reducible refine Own.drawn ?_) | (with_reducible refine Own.made_at ?_; first | rfl | (simp; done) | omega | (simp; omega)) | (with_reducible refine Own.more ?_ _) | (with_reducible refine Own.apart ?_ ?_ _ _; rotate_left; first | omega | (simp; done) | (simp; omega)) | (refine Own.put ?_ _ _))) (M_x.out.keep (by repeat' (first | (with_reducible exact Below.refl _ _) | (with_reducible assumption) | (with_reducible refine below_drewN ?_ _) | (with_reducible refine Below.drew ?_) | (with_reducible refine Below.alloc ?_ ?_ _) | (with_reducible refine Below.setCell ?_ ?_ _) | (with_reducible refine then_ ?_ (by with_reducible assumption) ?_) | (with_reducible exact Nat.le_refl _) | (with_reducible exact Nat.le_succ _) | (with_reducible exact Nat.le_succ_of_le (by with_reducible assumption)) | omega | (simp; done) | (simp; omega) | (exact Nat.le_succ _) | (exact Nat.le_succ_of_le (by with_reducible assumption))))) (M_y.out.keep (by repeat' (first | (with_reducible exact Below.refl _ _) | (with_reducible assumption) | (with_reducible refine below_drewN ?_ _) | (with_reducible refine Below.drew ?_) | (with_reducible refine Below.alloc ?_ ?_ _) | (with_reducible refine Below.setCell ?_ ?_ _) | (with_reducible refine then_ ?_ (by with_reducible assumption) ?_) | (with_reducible exact Nat.le_refl _) | (with_reducible exact Nat.le_succ _) | (with_reducible exact Nat.le_succ_of_le (by with_reducible assumption)) | omega | (simp; done) | (simp; omega) | (exact Nat.le_succ _) | (exact Nat.le_succ_of_le (by with_reducible assumption)))))).mono ?_; rintro e u9 ⟨rfl, hbu⟩; have hbf : Below V8.heap.size V8 u9 := then_ (by repeat' (first | (with_reducible exact Below.refl _ _) | (with_reducible assumption) | (with_reducible refine below_drewN ?_ _) | (with_reducible refine Below.drew ?_) | (with_reducible refine Below.alloc ?_ ?_ _) | (with_reducible refine Below.setCell ?_ ?_ _) | (with_reducible refine then_ ?_ (by with_reducible assumption) ?_) | (with_reducible exact Nat.le_refl _) | (with_reducible exact Nat.le_succ _) | (with_reducible exact Nat.le_succ_of_le (by with_reducible assumption)) | omega | (simp; done) | (simp; omega) | (exact Nat.le_succ _) | (exact Nat.le_succ_of_le (by with_reducible assumption)))) hbu (by simp); clear hbu P1 P2 P3 Q1 Q2 Q3)
  replace OR := OR.keep hbf
  replace O_8 := O_8.keep hbf
  replace O_9 := O_9.keep hbf
  replace O_10 := O_10.keep hbf
  replace O_11 := O_11.keep hbf
  replace O_12 := O_12.keep hbf
  replace O_13 := O_13.keep hbf
  replace M_p := Lib.hid (M_p.out.keep hbf)
  replace M_q := Lib.hid (M_q.out.keep hbf)
  replace M_r := Lib.hid (M_r.out.keep hbf)
  replace M_s := Lib.hid (M_s.out.keep hbf)
  replace M_x := Lib.hid (M_x.out.keep hbf)
  replace M_y := Lib.hid (M_y.out.keep hbf)
  replace hB := then_ hB hbf hB.size
  clear hbf
  obtain ⟨R1, R2, R3⟩ := OR.at_
  go_wp2
  refine bodyPost_ret (by first | (simp [results, Tryd.results13, go_sem, R1]; done) | (simp [results, Tryd.results13, go_sem, R1]; rfl)) rfl ⟨by rw [EV.out] <;> rfl, ?_⟩
  repeat' (first | (with_reducible exact Below.refl _ _) | (with_reducible assumption) | (with_reducible refine below_drewN ?_ _) | (with_reducible refine Below.drew ?_) | (with_reducible refine Below.alloc ?_ ?_ _) | (with_reducible refine Below.setCell ?_ ?_ _) | (with_reducible refine then_ ?_ (by with_reducible assumption) ?_) | (with_reducible exact Nat.le_refl _) | (with_reducible exact Nat.le_succ _) | (with_reducible exact Nat.le_succ_of_le (by with_reducible assumption)) | omega | (simp; done) | (simp; omega) | (exact Nat.le_succ _) | (exact Nat.le_succ_of_le (by with_reducible assumption)))
theorem do_3 {an ad bn bd : Int} (han : Fit an) (had : Fit ad) (hbn : Fit bn) (hbd : Fit bd) (w : World) : Calls Tryd.prog 13 #[.int .i64 3, .agg #[.int .u64 (L0 an), .int .u64 (L1 an), .int .u64 (L2 an), .int .u64 (L3 an), .int .u64 (L0 ad), .int .u64 (L1 ad), .int .u64 (L2 ad), .int .u64 (L3 ad)], .agg #[.int .u64 (L0 bn), .int .u64 (L1 bn), .int .u64 (L2 bn), .int .u64 (L3 bn), .int .u64 (L0 bd), .int .u64 (L1 bd), .int .u64 (L2 bd), .int .u64 (L3 bd)]] w fun e w' => e = .returned (.tuple #[.agg #[.int .u64 (L0 (rkP an ad bn bd (fb (an * bd) && fb (ad * bn)) (an * bd) (ad * bn))), .int .u64 (L1 (rkP an ad bn bd (fb (an * bd) && fb (ad * bn)) (an * bd) (ad * bn))), .int .u64 (L2 (rkP an ad bn bd (fb (an * bd) && fb (ad * bn)) (an * bd) (ad * bn))), .int .u64 (L3 (rkP an ad bn bd (fb (an * bd) && fb (ad * bn)) (an * bd) (ad * bn))), .int .u64 (L0 (rkQ an ad bn bd (fb (an * bd) && fb (ad * bn)) (an * bd) (ad * bn))), .int .u64 (L1 (rkQ an ad bn bd (fb (an * bd) && fb (ad * bn)) (an * bd) (ad * bn))), .int .u64 (L2 (rkQ an ad bn bd (fb (an * bd) && fb (ad * bn)) (an * bd) (ad * bn))), .int .u64 (L3 (rkQ an ad bn bd (fb (an * bd) && fb (ad * bn)) (an * bd) (ad * bn)))], .int .i64 (rkE an ad bn bd (fb (an * bd) && fb (ad * bn)) (an * bd) (ad * bn))]) ∧ Below w.heap.size w w' := by
  rcases Bool.eq_false_or_eq_true (decide (Rgt an ad)) with ra | ra
  · rcases Bool.eq_false_or_eq_true (decide (Rgt bn bd)) with rb | rb
    · have h : (decide (Rgt an ad) && decide (Rgt bn bd)) = true := by rw [ra, rb]; rfl
      have pa := (of_decide_eq_true ra : Rgt an ad).pos
      have pb := (of_decide_eq_true rb : Rgt bn bd).pos
      by_cases hz : bn = 0
      · have e : bd = 1 := by
          have h1 := (of_decide_eq_true rb : Rgt bn bd).2
          rw [hz] at h1
          unfold gz at h1
          simp at h1
          omega
        have k : (fb (an * bd) && fb (ad * bn)) = true := by
          rw [e, hz, Int.mul_one, Int.mul_zero, (fb_fit an).2 han, (fb_fit 0).2 fit0]; rfl
        have m : mkB (an * bd) (ad * bn) = false := by
          rw [hz, Int.mul_zero]; simp [mkB]
        exact do_3z han had hbn hbd ra rb hz _ (by unfold rkP rkQ rkE mkP mkQ mkR; rw [h, k, m, hz, Int.mul_zero]; rfl) w
      · rcases Bool.eq_false_or_eq_true (fb (an * bd) && fb (ad * bn)) with k | k
        · have k' := (Bool.and_eq_true _ _).mp k
          exact do_3y han had hbn hbd ra rb hz k ((fb_fit _).1 k'.1) ((fb_fit _).1 k'.2) (Int.mul_ne_zero (by omega) hz) _ (by unfold rkP rkQ rkE; rw [h, k]; rfl) w
        · exact do_3n han had hbn hbd ra rb hz k _ (by unfold rkP rkQ rkE; rw [h, k]; rfl) w
    · have h : (decide (Rgt an ad) && decide (Rgt bn bd)) = false := by rw [ra, rb]; rfl
      exact do_no2 han had hbn hbd ra rb _ (by unfold rkP rkQ rkE; rw [h]; rfl) w
  · have h : (decide (Rgt an ad) && decide (Rgt bn bd)) = false := by rw [ra]; rfl
    exact do_no1 han had hbn hbd ra _ (by unfold rkP rkQ rkE; rw [h]; rfl) w
end Go.Proofs.YtigcbgehnlilaaaDoor
