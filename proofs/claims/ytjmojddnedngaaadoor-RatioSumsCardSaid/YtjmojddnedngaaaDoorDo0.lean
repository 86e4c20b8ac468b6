
/- croftref04.Do of two right fractions: sums; written by gen_do.py. -/
import Derived.Test.YtjmojddnedngaaaDoorDo2
namespace Go.Proofs.YtjmojddnedngaaaDoor
open Go.ChangeShapes Go.WideShapes Go.ChangeAt Go.RowKit
set_option linter.unusedVariables false
set_option linter.unusedSimpArgs false

set_option maxHeartbeats 64000000 in
set_option maxRecDepth 20000 in
theorem do_0r {an ad bn bd : Int} (han : Fit an) (had : Fit ad) (hbn : Fit bn) (hbd : Fit bd) (ra : decide (Rgt an ad) = true) (rb : decide (Rgt bn bd) = true) {t1 t : Bool} (hok1 : (fb (an * bd) && fb (bn * ad)) = t1) (hok : (fb (an * bd + bn * ad) && fb (ad * bd)) = t) (fx : t1 = true → Fit (an * bd)) (fy : t1 = true → Fit (bn * ad)) (fn : t = true → Fit (an * bd + bn * ad)) (fd : t = true → Fit (ad * bd)) (hd0 : ad * bd ≠ 0) (VV : Value) (hV : t1 = false → VV = .tuple #[.agg #[.int .u64 (L0 0), .int .u64 (L1 0), .int .u64 (L2 0), .int .u64 (L3 0), .int .u64 (L0 0), .int .u64 (L1 0), .int .u64 (L2 0), .int .u64 (L3 0)], .int .i64 3]) (hVn : t1 = true → t = false → VV = .tuple #[.agg #[.int .u64 (L0 0), .int .u64 (L1 0), .int .u64 (L2 0), .int .u64 (L3 0), .int .u64 (L0 0), .int .u64 (L1 0), .int .u64 (L2 0), .int .u64 (L3 0)], .int .i64 3]) (hVy : t1 = true → t = true → VV = .tuple #[.agg #[.int .u64 (L0 (mkP (an * bd + bn * ad) (ad * bd))), .int .u64 (L1 (mkP (an * bd + bn * ad) (ad * bd))), .int .u64 (L2 (mkP (an * bd + bn * ad) (ad * bd))), .int .u64 (L3 (mkP (an * bd + bn * ad) (ad * bd))), .int .u64 (L0 (mkQ (an * bd + bn * ad) (ad * bd))), .int .u64 (L1 (mkQ (an * bd + bn * ad) (ad * bd))), .int .u64 (L2 (mkQ (an * bd + bn * ad) (ad * bd))), .int .u64 (L3 (mkQ (an * bd + bn * ad) (ad * bd)))], .int .i64 (mkR (an * bd + bn * ad) (ad * bd))]) (w : World) : Calls Tryd.prog 6 #[.int .i64 0, .agg #[.int .u64 (L0 an), .int .u64 (L1 an), .int .u64 (L2 an), .int .u64 (L3 an), .int .u64 (L0 ad), .int .u64 (L1 ad), .int .u64 (L2 ad), .int .u64 (L3 ad)], .agg #[.int .u64 (L0 bn), .int .u64 (L1 bn), .int .u64 (L2 bn), .int .u64 (L3 bn), .int .u64 (L0 bd), .int .u64 (L1 bd), .int .u64 (L2 bd), .int .u64 (L3 bd)]] w fun e w' => e = .returned VV ∧ Below w.heap.size w w' := by
  have EV := Lib.hid hV
  have EVn := Lib.hid hVn
  have EVy := Lib.hid hVy
  clear hV hVn hVy
  have FT1 := Lib.hid hok1
  have FT := Lib.hid hok
  have FX := Lib.hid fx
  have FY := Lib.hid fy
  have FN_ := Lib.hid fn
  have FD_ := Lib.hid fd
  have HD := Lib.hid hd0
  clear hok1 hok fx fy fn fd hd0
  have F_1 := Lib.hid (fun w => of_anyz an han w)
  have F_2 := Lib.hid (fun w => of_anyz ad had w)
  have F_3 := Lib.hid (fun w => of_anyz bn hbn w)
  have F_4 := Lib.hid (fun w => of_anyz bd hbd w)
  have RA := Lib.hid (fun w => ra ▸ rright_any han had w)
  have RB := Lib.hid (fun w => rb ▸ rright_any hbn hbd w)
  clear ra rb
  go_enter Tryd.func6, Tryd.ntmps6
  go_upto_region 1 with fail
  go_name_world W0 hW0
  have OA : Own W0 w.heap.size 31 #[.int .u64 (L0 an), .int .u64 (L1 an), .int .u64 (L2 an), .int .u64 (L3 an), .int .u64 (L0 ad), .int .u64 (L1 ad), .int .u64 (L2 ad), .int .u64 (L3 ad)] := hW0 ▸ (by repeat' (first | (with_reducible assumption) | (with_reducible refine Own.drawnN ?_ _) | (with_reducible refine Own.drawn ?_) | (with_reducible refine Own.made_at ?_; first | rfl | (simp; done) | omega | (simp; omega)) | (with_reducible refine Own.more ?_ _) | (with_reducible refine Own.apart ?_ ?_ _ _; rotate_left; first | omega | (simp; done) | (simp; omega)) | (refine Own.put ?_ _ _)))
  have OB : Own W0 (w.heap.size + 1) 31 #[.int .u64 (L0 bn), .int .u64 (L1 bn), .int .u64 (L2 bn), .int .u64 (L3 bn), .int .u64 (L0 bd), .int .u64 (L1 bd), .int .u64 (L2 bd), .int .u64 (L3 bd)] := hW0 ▸ (by repeat' (first | (with_reducible assumption) | (with_reducible refine Own.drawnN ?_ _) | (with_reducible refine Own.drawn ?_) | (with_reducible refine Own.made_at ?_; first | rfl | (simp; done) | omega | (simp; omega)) | (with_reducible refine Own.more ?_ _) | (with_reducible refine Own.apart ?_ ?_ _ _; rotate_left; first | omega | (simp; done) | (simp; omega)) | (refine Own.put ?_ _ _)))
  have OR : Own W0 (w.heap.size + 2) 31 #[.int .u64 0, .int .u64 0, .int .u64 0, .int .u64 0, .int .u64 0, .int .u64 0, .int .u64 0, .int .u64 0] := hW0 ▸ (by repeat' (first | (with_reducible assumption) | (with_reducible refine Own.drawnN ?_ _) | (with_reducible refine Own.drawn ?_) | (with_reducible refine Own.made_at ?_; first | rfl | (simp; done) | omega | (simp; omega)) | (with_reducible refine Own.more ?_ _) | (with_reducible refine Own.apart ?_ ?_ _ _; rotate_left; first | omega | (simp; done) | (simp; omega)) | (refine Own.put ?_ _ _)))
  have hB : Below w.heap.size w W0 := hW0 ▸ (by repeat' (first | (with_reducible exact Below.refl _ _) | (with_reducible assumption) | (with_reducible refine below_drewN ?_ _) | (with_reducible refine Below.drew ?_) | (with_reducible refine Below.alloc ?_ ?_ _) | (with_reducible refine Below.setCell ?_ ?_ _) | (with_reducible refine then_ ?_ (by with_reducible assumption) ?_) | (with_reducible exact Nat.le_refl _) | (with_reducible exact Nat.le_succ _) | (with_reducible exact Nat.le_succ_of_le (by with_reducible assumption)) | omega | (simp; done) | (simp; omega) | (exact Nat.le_succ _) | (exact Nat.le_succ_of_le (by with_reducible assumption))))
  clear hW0
  have z0 := OR.in_
  obtain ⟨P1, P2, P3⟩ := OA.at_
  obtain ⟨Q1, Q2, Q3⟩ := OB.at_
  go_upto_region 3 with (first
    | (go_at_call 12; with_reducible refine (RA.out _).mono ?_; rintro e w1 ⟨rfl, hb1⟩; have HB1 := Lib.hid hb1; clear hb1 P1 P2 P3 Q1 Q2 Q3; obtain ⟨Q1, Q2, Q3⟩ := (OB.keep HB1.out).at_)
    | (go_at_call 12; with_reducible refine (RB.out _).mono ?_; rintro e w2 ⟨rfl, hb2⟩; have HB2 := Lib.hid hb2; clear hb2 Q1 Q2 Q3))
  replace OA := (OA.keep HB1.out).keep HB2.out
  replace OB := (OB.keep HB1.out).keep HB2.out
  replace OR := (OR.keep HB1.out).keep HB2.out
  replace hB := then_ (then_ hB HB1.out hB.size) HB2.out (Nat.le_trans hB.size HB1.out.size)
  have z2 := OR.in_
  clear HB1 HB2 z0 RA RB
  have zi1_OA := OA.in_
  have zi1_OB := OB.in_
  have zi1_OR := OR.in_
  go_upto_region 3 with fail
  refine region_memon (L := [.val (.pointer (some ⟨w.heap.size, 0, none⟩)), .val (.agg #[.int .u64 (L0 an), .int .u64 (L1 an), .int .u64 (L2 an), .int .u64 (L3 an)]), .num (fun w v => NumP w (fun _ => True) v an), .val (.pointer (some ⟨w.heap.size, 4, none⟩)), .val (.agg #[.int .u64 (L0 ad), .int .u64 (L1 ad), .int .u64 (L2 ad), .int .u64 (L3 ad)]), .num (fun w v => NumP w (fun _ => True) v ad), .val (.pointer (some ⟨w.heap.size + 1, 0, none⟩)), .val (.agg #[.int .u64 (L0 bn), .int .u64 (L1 bn), .int .u64 (L2 bn), .int .u64 (L3 bn)]), .num (fun w v => NumP w (fun _ => True) v bn), .val (.pointer (some ⟨w.heap.size + 1, 4, none⟩)), .val (.agg #[.int .u64 (L0 bd), .int .u64 (L1 bd), .int .u64 (L2 bd), .int .u64 (L3 bd)]), .num (fun w v => NumP w (fun _ => True) v bd), .cell 42 #[.bool false, .slice none 0 0], .cell 42 #[.bool false, .slice none 0 0], .cell 42 #[.bool false, .slice none 0 0], .cell 42 #[.bool false, .slice none 0 0]]) (by kernel_rfl) (by kernel_rfl) ⟨fun _ _ _ h hb => NumP.keep h hb, ⟨fun _ _ _ h hb => NumP.keep h hb, ⟨fun _ _ _ h hb => NumP.keep h hb, ⟨fun _ _ _ h hb => NumP.keep h hb, trivial⟩⟩⟩⟩
    ⟨fun a w R => sv_ (fa_Q_0 (R.slot 4 rfl)), fun a w R => sv_ (ld_A (R.val 0) (OA.drawn.keep R.below) rfl rfl rfl rfl), fun a w R => cn_t (enter_at Tryd.func13) (R.val 1) (F_1.out _), fun a w R => sv_ (fa_Q_1 (R.slot 4 rfl)), fun a w R => sv_ (ld_A (R.val 3) (OA.drawn.keep R.below) rfl rfl rfl rfl), fun a w R => cn_t (enter_at Tryd.func13) (R.val 4) (F_2.out _), fun a w R => sv_ (fa_Q_0 (R.slot 5 rfl)), fun a w R => sv_ (ld_A (R.val 6) (OB.drawn.keep R.below) rfl rfl rfl rfl), fun a w R => cn_t (enter_at Tryd.func13) (R.val 7) (F_3.out _), fun a w R => sv_ (fa_Q_1 (R.slot 5 rfl)), fun a w R => sv_ (ld_A (R.val 9) (OB.drawn.keep R.below) rfl rfl rfl rfl), fun a w R => cn_t (enter_at Tryd.func13) (R.val 10) (F_4.out _), fun a w R => (by show _ = _; simp [go_sem, execOp]), fun a w R => (by show _ = _; simp [go_sem, execOp]), fun a w R => (by show _ = _; simp [go_sem, execOp]), fun a w R => (by show _ = _; simp [go_sem, execOp]), trivial⟩ (fun act_ V1 I => ?_)
  obtain ⟨v_p, ev29, hn⟩ := I.num 2 (ltb rfl)
  obtain ⟨s_p, a_p, l_p, c_p, rfl⟩ := hn.shape
  have N_p := hn
  clear hn
  obtain ⟨v_q, ev32, hn⟩ := I.num 5 (ltb rfl)
  obtain ⟨s_q, a_q, l_q, c_q, rfl⟩ := hn.shape
  have N_q := hn
  clear hn
  obtain ⟨v_r, ev35, hn⟩ := I.num 8 (ltb rfl)
  obtain ⟨s_r, a_r, l_r, c_r, rfl⟩ := hn.shape
  have N_r := hn
  clear hn
  obtain ⟨v_s, ev38, hn⟩ := I.num 11 (ltb rfl)
  obtain ⟨s_s, a_s, l_s, c_s, rfl⟩ := hn.shape
  have N_s := hn
  clear hn
  obtain ⟨g8, eg8, lg8, O_8⟩ := I.cell 12 (ltb rfl)
  obtain ⟨g9, eg9, lg9, O_9⟩ := I.cell 13 (ltb rfl)
  obtain ⟨g10, eg10, lg10, O_10⟩ := I.cell 14 (ltb rfl)
  obtain ⟨g11, eg11, lg11, O_11⟩ := I.cell 15 (ltb rfl)
  have ng8_9 := I.apart2 12 13 (ltb rfl) (ltb rfl) (by decide) eg8 eg9
  have ng8_10 := I.apart2 12 14 (ltb rfl) (ltb rfl) (by decide) eg8 eg10
  have ng8_11 := I.apart2 12 15 (ltb rfl) (ltb rfl) (by decide) eg8 eg11
  have ng9_10 := I.apart2 13 14 (ltb rfl) (ltb rfl) (by decide) eg9 eg10
  have ng9_11 := I.apart2 13 15 (ltb rfl) (ltb rfl) (by decide) eg9 eg11
  have ng10_11 := I.apart2 14 15 (ltb rfl) (ltb rfl) (by decide) eg10 eg11
  rw [I.act [(27, (.pointer (some ⟨w.heap.size, 0, none⟩))), (28, (.agg #[.int .u64 (L0 an), .int .u64 (L1 an), .int .u64 (L2 an), .int .u64 (L3 an)])), (29, .agg #[.bool s_p, .slice a_p l_p c_p]), (30, (.pointer (some ⟨w.heap.size, 4, none⟩))), (31, (.agg #[.int .u64 (L0 ad), .int .u64 (L1 ad), .int .u64 (L2 ad), .int .u64 (L3 ad)])), (32, .agg #[.bool s_q, .slice a_q l_q c_q]), (33, (.pointer (some ⟨w.heap.size + 1, 0, none⟩))), (34, (.agg #[.int .u64 (L0 bn), .int .u64 (L1 bn), .int .u64 (L2 bn), .int .u64 (L3 bn)])), (35, .agg #[.bool s_r, .slice a_r l_r c_r]), (36, (.pointer (some ⟨w.heap.size + 1, 4, none⟩))), (37, (.agg #[.int .u64 (L0 bd), .int .u64 (L1 bd), .int .u64 (L2 bd), .int .u64 (L3 bd)])), (38, .agg #[.bool s_s, .slice a_s l_s c_s]), (8, .pointer (some ⟨g8, 0, none⟩)), (9, .pointer (some ⟨g9, 0, none⟩)), (10, .pointer (some ⟨g10, 0, none⟩)), (11, .pointer (some ⟨g11, 0, none⟩))]
    ⟨I.val 0 (ltb rfl), I.val 1 (ltb rfl), ev29, I.val 3 (ltb rfl), I.val 4 (ltb rfl), ev32, I.val 6 (ltb rfl), I.val 7 (ltb rfl), ev35, I.val 9 (ltb rfl), I.val 10 (ltb rfl), ev38, eg8, eg9, eg10, eg11, trivial⟩ rfl]
  have hb_ : Below w2.drew.heap.size w2.drew V1 := I.below
  change w2.heap.size ≤ g8 at lg8
  change w2.heap.size ≤ g9 at lg9
  change w2.heap.size ≤ g10 at lg10
  change w2.heap.size ≤ g11 at lg11
  clear I eg8 eg9 eg10 eg11 ev29 ev32 ev35 ev38
  simp only [List.foldl_cons, List.foldl_nil, List.setIfInBounds_toArray, List.set_cons_zero, List.set_cons_succ]
  replace OA := OA.drawn.keep hb_
  replace OB := OB.drawn.keep hb_
  replace OR := OR.drawn.keep hb_
  replace hB := then_ hB.drew hb_ hB.size
  clear hb_
  have M_p := Lib.hid N_p
  clear N_p
  have M_q := Lib.hid N_q
  clear N_q
  have M_r := Lib.hid N_r
  clear N_r
  have M_s := Lib.hid N_s
  clear N_s
  refine tree_one (i := 16) (by kernel_rfl) rfl ⟨_, rfl, fun K hK => ?_⟩
  obtain ⟨P1, P2, P3⟩ := O_8.at_
  go_wp2
  clear P1 P2 P3
  refine hK _ _ trivial ?_
  clear hK K
  obtain ⟨V2, hX⟩ : ∃ X, (V1.setCell ⟨g8, 0, none⟩ (.bool s_p)).setCell ⟨g8, 1, none⟩ (.slice a_p l_p c_p) = X := ⟨_, rfl⟩
  rw [hX]
  have M_p_ := Lib.hid (hX ▸ (((M_p.out.aside O_8).put (p := g8) (i := 0) (by rintro ⟨_, h⟩; exact h rfl) (.bool s_p)).put (p := g8) (i := 1) (by rintro ⟨_, h⟩; exact h rfl) (.slice a_p l_p c_p)).mono (S' := fun _ => True) (fun _ _ _ => trivial))
  have M_q_ := Lib.hid (hX ▸ (((M_q.out.aside O_8).put (p := g8) (i := 0) (by rintro ⟨_, h⟩; exact h rfl) (.bool s_p)).put (p := g8) (i := 1) (by rintro ⟨_, h⟩; exact h rfl) (.slice a_p l_p c_p)).mono (S' := fun _ => True) (fun _ _ _ => trivial))
  have M_r_ := Lib.hid (hX ▸ (((M_r.out.aside O_8).put (p := g8) (i := 0) (by rintro ⟨_, h⟩; exact h rfl) (.bool s_p)).put (p := g8) (i := 1) (by rintro ⟨_, h⟩; exact h rfl) (.slice a_p l_p c_p)).mono (S' := fun _ => True) (fun _ _ _ => trivial))
  have M_s_ := Lib.hid (hX ▸ (((M_s.out.aside O_8).put (p := g8) (i := 0) (by rintro ⟨_, h⟩; exact h rfl) (.bool s_p)).put (p := g8) (i := 1) (by rintro ⟨_, h⟩; exact h rfl) (.slice a_p l_p c_p)).mono (S' := fun _ => True) (fun _ _ _ => trivial))
  have OA_ := hX ▸ ((OA.apart (q := g8) (by omega) 0 (.bool s_p)).apart (q := g8) (by omega) 1 (.slice a_p l_p c_p))
  have OB_ := hX ▸ ((OB.apart (q := g8) (by omega) 0 (.bool s_p)).apart (q := g8) (by omega) 1 (.slice a_p l_p c_p))
  have OR_ := hX ▸ ((OR.apart (q := g8) (by omega) 0 (.bool s_p)).apart (q := g8) (by omega) 1 (.slice a_p l_p c_p))
  have O_8_ : Own V2 g8 42 #[.bool s_p, .slice a_p l_p c_p] := hX ▸ (((O_8.put 0 _).put 1 _).as rfl)
  have O_9_ := hX ▸ ((O_9.apart (q := g8) (by omega) 0 (.bool s_p)).apart (q := g8) (by omega) 1 (.slice a_p l_p c_p))
  have O_10_ := hX ▸ ((O_10.apart (q := g8) (by omega) 0 (.bool s_p)).apart (q := g8) (by omega) 1 (.slice a_p l_p c_p))
  have O_11_ := hX ▸ ((O_11.apart (q := g8) (by omega) 0 (.bool s_p)).apart (q := g8) (by omega) 1 (.slice a_p l_p c_p))
  have hB_ : Below w.heap.size w V2 := hX ▸ ((hB.setCell (by show w.heap.size ≤ g8; omega) _).setCell (by show w.heap.size ≤ g8; omega) _)
  clear hX M_p M_q M_r M_s OA OB OR O_8 O_9 O_10 O_11 hB
  have M_p := M_p_
  have M_q := M_q_
  have M_r := M_r_
  have M_s := M_s_
  have OA := OA_
  have OB := OB_
  have OR := OR_
  have O_8 := O_8_
  have O_9 := O_9_
  have O_10 := O_10_
  have O_11 := O_11_
  have hB := hB_
  clear M_p_ M_q_ M_r_ M_s_ OA_ OB_ OR_ O_8_ O_9_ O_10_ O_11_ hB_
  refine tree_one (i := 17) (by kernel_rfl) rfl ⟨_, rfl, fun K hK => ?_⟩
  obtain ⟨P1, P2, P3⟩ := O_9.at_
  go_wp2
  clear P1 P2 P3
  refine hK _ _ trivial ?_
  clear hK K
  obtain ⟨V3, hX⟩ : ∃ X, (V2.setCell ⟨g9, 0, none⟩ (.bool s_q)).setCell ⟨g9, 1, none⟩ (.slice a_q l_q c_q) = X := ⟨_, rfl⟩
  rw [hX]
  have M_p_ := Lib.hid (hX ▸ (((M_p.out.aside O_9).put (p := g9) (i := 0) (by rintro ⟨_, h⟩; exact h rfl) (.bool s_q)).put (p := g9) (i := 1) (by rintro ⟨_, h⟩; exact h rfl) (.slice a_q l_q c_q)).mono (S' := fun _ => True) (fun _ _ _ => trivial))
  have M_q_ := Lib.hid (hX ▸ (((M_q.out.aside O_9).put (p := g9) (i := 0) (by rintro ⟨_, h⟩; exact h rfl) (.bool s_q)).put (p := g9) (i := 1) (by rintro ⟨_, h⟩; exact h rfl) (.slice a_q l_q c_q)).mono (S' := fun _ => True) (fun _ _ _ => trivial))
  have M_r_ := Lib.hid (hX ▸ (((M_r.out.aside O_9).put (p := g9) (i := 0) (by rintro ⟨_, h⟩; exact h rfl) (.bool s_q)).put (p := g9) (i := 1) (by rintro ⟨_, h⟩; exact h rfl) (.slice a_q l_q c_q)).mono (S' := fun _ => True) (fun _ _ _ => trivial))
  have M_s_ := Lib.hid (hX ▸ (((M_s.out.aside O_9).put (p := g9) (i := 0) (by rintro ⟨_, h⟩; exact h rfl) (.bool s_q)).put (p := g9) (i := 1) (by rintro ⟨_, h⟩; exact h rfl) (.slice a_q l_q c_q)).mono (S' := fun _ => True) (fun _ _ _ => trivial))
  have OA_ := hX ▸ ((OA.apart (q := g9) (by omega) 0 (.bool s_q)).apart (q := g9) (by omega) 1 (.slice a_q l_q c_q))
  have OB_ := hX ▸ ((OB.apart (q := g9) (by omega) 0 (.bool s_q)).apart (q := g9) (by omega) 1 (.slice a_q l_q c_q))
  have OR_ := hX ▸ ((OR.apart (q := g9) (by omega) 0 (.bool s_q)).apart (q := g9) (by omega) 1 (.slice a_q l_q c_q))
  have O_8_ := hX ▸ ((O_8.apart (q := g9) (by omega) 0 (.bool s_q)).apart (q := g9) (by omega) 1 (.slice a_q l_q c_q))
  have O_9_ : Own V3 g9 42 #[.bool s_q, .slice a_q l_q c_q] := hX ▸ (((O_9.put 0 _).put 1 _).as rfl)
  have O_10_ := hX ▸ ((O_10.apart (q := g9) (by omega) 0 (.bool s_q)).apart (q := g9) (by omega) 1 (.slice a_q l_q c_q))
  have O_11_ := hX ▸ ((O_11.apart (q := g9) (by omega) 0 (.bool s_q)).apart (q := g9) (by omega) 1 (.slice a_q l_q c_q))
  have hB_ : Below w.heap.size w V3 := hX ▸ ((hB.setCell (by show w.heap.size ≤ g9; omega) _).setCell (by show w.heap.size ≤ g9; omega) _)
  clear hX M_p M_q M_r M_s OA OB OR O_8 O_9 O_10 O_11 hB
  have M_p := M_p_
  have M_q := M_q_
  have M_r := M_r_
  have M_s := M_s_
  have OA := OA_
  have OB := OB_
  have OR := OR_
  have O_8 := O_8_
  have O_9 := O_9_
  have O_10 := O_10_
  have O_11 := O_11_
  have hB := hB_
  clear M_p_ M_q_ M_r_ M_s_ OA_ OB_ OR_ O_8_ O_9_ O_10_ O_11_ hB_
  refine tree_one (i := 18) (by kernel_rfl) rfl ⟨_, rfl, fun K hK => ?_⟩
  obtain ⟨P1, P2, P3⟩ := O_10.at_
  go_wp2
  clear P1 P2 P3
  refine hK _ _ trivial ?_
  clear hK K
  obtain ⟨V4, hX⟩ : ∃ X, (V3.setCell ⟨g10, 0, none⟩ (.bool s_r)).setCell ⟨g10, 1, none⟩ (.slice a_r l_r c_r) = X := ⟨_, rfl⟩
  rw [hX]
  have M_p_ := Lib.hid (hX ▸ (((M_p.out.aside O_10).put (p := g10) (i := 0) (by rintro ⟨_, h⟩; exact h rfl) (.bool s_r)).put (p := g10) (i := 1) (by rintro ⟨_, h⟩; exact h rfl) (.slice a_r l_r c_r)).mono (S' := fun _ => True) (fun _ _ _ => trivial))
  have M_q_ := Lib.hid (hX ▸ (((M_q.out.aside O_10).put (p := g10) (i := 0) (by rintro ⟨_, h⟩; exact h rfl) (.bool s_r)).put (p := g10) (i := 1) (by rintro ⟨_, h⟩; exact h rfl) (.slice a_r l_r c_r)).mono (S' := fun _ => True) (fun _ _ _ => trivial))
  have M_r_ := Lib.hid (hX ▸ (((M_r.out.aside O_10).put (p := g10) (i := 0) (by rintro ⟨_, h⟩; exact h rfl) (.bool s_r)).put (p := g10) (i := 1) (by rintro ⟨_, h⟩; exact h rfl) (.slice a_r l_r c_r)).mono (S' := fun _ => True) (fun _ _ _ => trivial))
  have M_s_ := Lib.hid (hX ▸ (((M_s.out.aside O_10).put (p := g10) (i := 0) (by rintro ⟨_, h⟩; exact h rfl) (.bool s_r)).put (p := g10) (i := 1) (by rintro ⟨_, h⟩; exact h rfl) (.slice a_r l_r c_r)).mono (S' := fun _ => True) (fun _ _ _ => trivial))
  have OA_ := hX ▸ ((OA.apart (q := g10) (by omega) 0 (.bool s_r)).apart (q := g10) (by omega) 1 (.slice a_r l_r c_r))
  have OB_ := hX ▸ ((OB.apart (q := g10) (by omega) 0 (.bool s_r)).apart (q := g10) (by omega) 1 (.slice a_r l_r c_r))
  have OR_ := hX ▸ ((OR.apart (q := g10) (by omega) 0 (.bool s_r)).apart (q := g10) (by omega) 1 (.slice a_r l_r c_r))
  have O_8_ := hX ▸ ((O_8.apart (q := g10) (by omega) 0 (.bool s_r)).apart (q := g10) (by omega) 1 (.slice a_r l_r c_r))
  have O_9_ := hX ▸ ((O_9.apart (q := g10) (by omega) 0 (.bool s_r)).apart (q := g10) (by omega) 1 (.slice a_r l_r c_r))
  have O_10_ : Own V4 g10 42 #[.bool s_r, .slice a_r l_r c_r] := hX ▸ (((O_10.put 0 _).put 1 _).as rfl)
  have O_11_ := hX ▸ ((O_11.apart (q := g10) (by omega) 0 (.bool s_r)).apart (q := g10) (by omega) 1 (.slice a_r l_r c_r))
  have hB_ : Below w.heap.size w V4 := hX ▸ ((hB.setCell (by show w.heap.size ≤ g10; omega) _).setCell (by show w.heap.size ≤ g10; omega) _)
  clear hX M_p M_q M_r M_s OA OB OR O_8 O_9 O_10 O_11 hB
  have M_p := M_p_
  have M_q := M_q_
  have M_r := M_r_
  have M_s := M_s_
  have OA := OA_
  have OB := OB_
  have OR := OR_
  have O_8 := O_8_
  have O_9 := O_9_
  have O_10 := O_10_
  have O_11 := O_11_
  have hB := hB_
  clear M_p_ M_q_ M_r_ M_s_ OA_ OB_ OR_ O_8_ O_9_ O_10_ O_11_ hB_
  refine tree_one (i := 19) (by kernel_rfl) rfl ⟨_, rfl, fun K hK => ?_⟩
  obtain ⟨P1, P2, P3⟩ := O_11.at_
  go_wp2
  clear P1 P2 P3
  refine hK _ _ trivial ?_
  clear hK K
  obtain ⟨V5, hX⟩ : ∃ X, (V4.setCell ⟨g11, 0, none⟩ (.bool s_s)).setCell ⟨g11, 1, none⟩ (.slice a_s l_s c_s) = X := ⟨_, rfl⟩
  rw [hX]
  have M_p_ := Lib.hid (hX ▸ (((M_p.out.aside O_11).put (p := g11) (i := 0) (by rintro ⟨_, h⟩; exact h rfl) (.bool s_s)).put (p := g11) (i := 1) (by rintro ⟨_, h⟩; exact h rfl) (.slice a_s l_s c_s)).mono (S' := fun _ => True) (fun _ _ _ => trivial))
  have M_q_ := Lib.hid (hX ▸ (((M_q.out.aside O_11).put (p := g11) (i := 0) (by rintro ⟨_, h⟩; exact h rfl) (.bool s_s)).put (p := g11) (i := 1) (by rintro ⟨_, h⟩; exact h rfl) (.slice a_s l_s c_s)).mono (S' := fun _ => True) (fun _ _ _ => trivial))
  have M_r_ := Lib.hid (hX ▸ (((M_r.out.aside O_11).put (p := g11) (i := 0) (by rintro ⟨_, h⟩; exact h rfl) (.bool s_s)).put (p := g11) (i := 1) (by rintro ⟨_, h⟩; exact h rfl) (.slice a_s l_s c_s)).mono (S' := fun _ => True) (fun _ _ _ => trivial))
  have M_s_ := Lib.hid (hX ▸ (((M_s.out.aside O_11).put (p := g11) (i := 0) (by rintro ⟨_, h⟩; exact h rfl) (.bool s_s)).put (p := g11) (i := 1) (by rintro ⟨_, h⟩; exact h rfl) (.slice a_s l_s c_s)).mono (S' := fun _ => True) (fun _ _ _ => trivial))
  have OA_ := hX ▸ ((OA.apart (q := g11) (by omega) 0 (.bool s_s)).apart (q := g11) (by omega) 1 (.slice a_s l_s c_s))
  have OB_ := hX ▸ ((OB.apart (q := g11) (by omega) 0 (.bool s_s)).apart (q := g11) (by omega) 1 (.slice a_s l_s c_s))
  have OR_ := hX ▸ ((OR.apart (q := g11) (by omega) 0 (.bool s_s)).apart (q := g11) (by omega) 1 (.slice a_s l_s c_s))
  have O_8_ := hX ▸ ((O_8.apart (q := g11) (by omega) 0 (.bool s_s)).apart (q := g11) (by omega) 1 (.slice a_s l_s c_s))
  have O_9_ := hX ▸ ((O_9.apart (q := g11) (by omega) 0 (.bool s_s)).apart (q := g11) (by omega) 1 (.slice a_s l_s c_s))
  have O_10_ := hX ▸ ((O_10.apart (q := g11) (by omega) 0 (.bool s_s)).apart (q := g11) (by omega) 1 (.slice a_s l_s c_s))
  have O_11_ : Own V5 g11 42 #[.bool s_s, .slice a_s l_s c_s] := hX ▸ (((O_11.put 0 _).put 1 _).as rfl)
  have hB_ : Below w.heap.size w V5 := hX ▸ ((hB.setCell (by show w.heap.size ≤ g11; omega) _).setCell (by show w.heap.size ≤ g11; omega) _)
  clear hX M_p M_q M_r M_s OA OB OR O_8 O_9 O_10 O_11 hB
  have M_p := M_p_
  have M_q := M_q_
  have M_r := M_r_
  have M_s := M_s_
  have OA := OA_
  have OB := OB_
  have OR := OR_
  have O_8 := O_8_
  have O_9 := O_9_
  have O_10 := O_10_
  have O_11 := O_11_
  have hB := hB_
  clear M_p_ M_q_ M_r_ M_s_ OA_ OB_ OR_ O_8_ O_9_ O_10_ O_11_ hB_
  refine tree_end (by kernel_rfl) ?_
  clear F_1 F_2 F_3 F_4 OA OB
  go_upto_region 11 with fail
  have zj1 := OR.in_
  obtain ⟨P1, P2, P3⟩ := O_9.at_
  obtain ⟨Q1, Q2, Q3⟩ := O_11.at_
  go_upto_region 12 with (go_at_call 14; refine (mul_P had hbd V5 M_q.out M_s.out).mono ?_; rintro e u6 ⟨v_d, rfl, hn, hbu⟩; obtain ⟨s_d, a_d, l_d, c_d, rfl⟩ := hn.shape; have N_d := Lib.hid hn; clear hn P1 P2 P3 Q1 Q2 Q3)
  go_name_world V6 hWW
  have O_14 : Own V6 u6.heap.size 42 #[.bool s_d, .slice a_d l_d c_d] := hWW ▸ (by repeat' (first | (with_reducible assumption) | (with_reducible refine Own.drawnN ?_ _) | (with_reducible refine Own.drawn ?_) | (with_reducible refine Own.made_at ?_; first | rfl | (simp; done) | omega | (simp; omega)) | (with_reducible refine Own.more ?_ _) | (with_reducible refine Own.apart ?_ ?_ _ _; rotate_left; first | omega | (simp; done) | (simp; omega)) | (refine Own.put ?_ _ _)))
  have hb2 : Below u6.heap.size u6 V6 := hWW ▸ (by repeat' (first | (with_reducible exact Below.refl _ _) | (with_reducible assumption) | (with_reducible refine below_drewN ?_ _) | (with_reducible refine Below.drew ?_) | (with_reducible refine Below.alloc ?_ ?_ _) | (with_reducible refine Below.setCell ?_ ?_ _) | (with_reducible refine then_ ?_ (by with_reducible assumption) ?_) | (with_reducible exact Nat.le_refl _) | (with_reducible exact Nat.le_succ _) | (with_reducible exact Nat.le_succ_of_le (by with_reducible assumption)) | omega | (simp; done) | (simp; omega) | (exact Nat.le_succ _) | (exact Nat.le_succ_of_le (by with_reducible assumption))))
  have hb12 : Below V5.heap.size V5 V6 := then_ hbu hb2 hbu.size
  have zz6 := hbu.size
  have M_d := Lib.hid (N_d.out.keep hb2)
  clear hWW N_d
  replace OR := OR.keep hb12
  replace O_8 := O_8.keep hb12
  replace O_9 := O_9.keep hb12
  replace O_10 := O_10.keep hb12
  replace O_11 := O_11.keep hb12
  replace M_p := Lib.hid (M_p.out.keep hb12)
  replace M_q := Lib.hid (M_q.out.keep hb12)
  replace M_r := Lib.hid (M_r.out.keep hb12)
  replace M_s := Lib.hid (M_s.out.keep hb12)
  replace hB := then_ hB hb12 hB.size
  clear hbu hb2 hb12
  have zk_OR := OR.in_
  have zk_O_8 := O_8.in_
  have zk_O_9 := O_9.in_
  have zk_O_10 := O_10.in_
  have zk_O_11 := O_11.in_
  have zk_O_14 := O_14.in_
  obtain ⟨P1, P2, P3⟩ := O_8.at_
  obtain ⟨Q1, Q2, Q3⟩ := O_10.at_
  go_upto_region 13 with (go_at_call 14; refine (mul_P han hbn V6 M_p.out M_r.out).mono ?_; rintro e u7 ⟨v_n, rfl, hn, hbu⟩; obtain ⟨s_n, a_n, l_n, c_n, rfl⟩ := hn.shape; have N_n := Lib.hid hn; clear hn P1 P2 P3 Q1 Q2 Q3)
  go_name_world V7 hWW
  have O_15 : Own V7 u7.heap.size 42 #[.bool s_n, .slice a_n l_n c_n] := hWW ▸ (by repeat' (first | (with_reducible assumption) | (with_reducible refine Own.drawnN ?_ _) | (with_reducible refine Own.drawn ?_) | (with_reducible refine Own.made_at ?_; first | rfl | (simp; done) | omega | (simp; omega)) | (with_reducible refine Own.more ?_ _) | (with_reducible refine Own.apart ?_ ?_ _ _; rotate_left; first | omega | (simp; done) | (simp; omega)) | (refine Own.put ?_ _ _)))
  have hb2 : Below u7.heap.size u7 V7 := hWW ▸ (by repeat' (first | (with_reducible exact Below.refl _ _) | (with_reducible assumption) | (with_reducible refine below_drewN ?_ _) | (with_reducible refine Below.drew ?_) | (with_reducible refine Below.alloc ?_ ?_ _) | (with_reducible refine Below.setCell ?_ ?_ _) | (with_reducible refine then_ ?_ (by with_reducible assumption) ?_) | (with_reducible exact Nat.le_refl _) | (with_reducible exact Nat.le_succ _) | (with_reducible exact Nat.le_succ_of_le (by with_reducible assumption)) | omega | (simp; done) | (simp; omega) | (exact Nat.le_succ _) | (exact Nat.le_succ_of_le (by with_reducible assumption))))
  have hb12 : Below V6.heap.size V6 V7 := then_ hbu hb2 hbu.size
  have zz7 := hbu.size
  have M_n := Lib.hid (N_n.out.keep hb2)
  clear hWW N_n
  replace OR := OR.keep hb12
  replace O_8 := O_8.keep hb12
  replace O_9 := O_9.keep hb12
  replace O_10 := O_10.keep hb12
  replace O_11 := O_11.keep hb12
  replace O_14 := O_14.keep hb12
  replace M_p := Lib.hid (M_p.out.keep hb12)
  replace M_q := Lib.hid (M_q.out.keep hb12)
  replace M_r := Lib.hid (M_r.out.keep hb12)
  replace M_s := Lib.hid (M_s.out.keep hb12)
  replace M_d := Lib.hid (M_d.out.keep hb12)
  replace hB := then_ hB hb12 hB.size
  clear hbu hb2 hb12
  have zl_OR := OR.in_
  have zl_O_8 := O_8.in_
  have zl_O_9 := O_9.in_
  have zl_O_10 := O_10.in_
  have zl_O_11 := O_11.in_
  have zl_O_14 := O_14.in_
  have zl_O_15 := O_15.in_
  go_upto_region 14 with fail
  have zi8_OR := OR.in_
  have zi8_O_8 := O_8.in_
  have zi8_O_9 := O_9.in_
  have zi8_O_10 := O_10.in_
  have zi8_O_11 := O_11.in_
  have zi8_O_14 := O_14.in_
  have zi8_O_15 := O_15.in_
  go_upto_region 14 with fail
  refine region_memon (L := [.val (.agg #[.bool s_p, .slice a_p l_p c_p]), .val (.agg #[.bool s_s, .slice a_s l_s c_s]), .num (fun w v => NumP w (fun _ => True) v (an * bd)), .val (.agg #[.bool s_r, .slice a_r l_r c_r]), .val (.agg #[.bool s_q, .slice a_q l_q c_q]), .num (fun w v => NumP w (fun _ => True) v (bn * ad)), .cell 42 #[.bool false, .slice none 0 0], .cell 42 #[.bool false, .slice none 0 0]]) (by kernel_rfl) (by kernel_rfl) ⟨fun _ _ _ h hb => NumP.keep h hb, ⟨fun _ _ _ h hb => NumP.keep h hb, trivial⟩⟩
    ⟨fun a w R => sv_ (ld_N (R.slot 8 rfl) (O_8.drawn.keep R.below) rfl rfl), fun a w R => sv_ (ld_N (R.slot 11 rfl) (O_11.drawn.keep R.below) rfl rfl), fun a w R => cn_tt (enter_at Tryd.func14) (R.val 0) (R.val 1) (mul_P han hbd _ ((M_p.out.keep (Below.refl _ _).drew).keep R.below) ((M_s.out.keep (Below.refl _ _).drew).keep R.below)), fun a w R => sv_ (ld_N (R.slot 10 rfl) (O_10.drawn.keep R.below) rfl rfl), fun a w R => sv_ (ld_N (R.slot 9 rfl) (O_9.drawn.keep R.below) rfl rfl), fun a w R => cn_tt (enter_at Tryd.func14) (R.val 3) (R.val 4) (mul_P hbn had _ ((M_r.out.keep (Below.refl _ _).drew).keep R.below) ((M_q.out.keep (Below.refl _ _).drew).keep R.below)), fun a w R => (by show _ = _; simp [go_sem, execOp]), fun a w R => (by show _ = _; simp [go_sem, execOp]), trivial⟩ (fun act_ V8 I => ?_)
  obtain ⟨v_x, ev73, hn⟩ := I.num 2 (ltb rfl)
  obtain ⟨s_x, a_x, l_x, c_x, rfl⟩ := hn.shape
  have N_x := hn
  clear hn
  obtain ⟨v_y, ev76, hn⟩ := I.num 5 (ltb rfl)
  obtain ⟨s_y, a_y, l_y, c_y, rfl⟩ := hn.shape
  have N_y := hn
  clear hn
  obtain ⟨g16, eg16, lg16, O_16⟩ := I.cell 6 (ltb rfl)
  obtain ⟨g17, eg17, lg17, O_17⟩ := I.cell 7 (ltb rfl)
  have ng16_17 := I.apart2 6 7 (ltb rfl) (ltb rfl) (by decide) eg16 eg17
  rw [I.act [(71, (.agg #[.bool s_p, .slice a_p l_p c_p])), (72, (.agg #[.bool s_s, .slice a_s l_s c_s])), (73, .agg #[.bool s_x, .slice a_x l_x c_x]), (74, (.agg #[.bool s_r, .slice a_r l_r c_r])), (75, (.agg #[.bool s_q, .slice a_q l_q c_q])), (76, .agg #[.bool s_y, .slice a_y l_y c_y]), (16, .pointer (some ⟨g16, 0, none⟩)), (17, .pointer (some ⟨g17, 0, none⟩))]
    ⟨I.val 0 (ltb rfl), I.val 1 (ltb rfl), ev73, I.val 3 (ltb rfl), I.val 4 (ltb rfl), ev76, eg16, eg17, trivial⟩ rfl]
  have hb_ : Below V7.drew.heap.size V7.drew V8 := I.below
  change V7.heap.size ≤ g16 at lg16
  change V7.heap.size ≤ g17 at lg17
  clear I eg16 eg17 ev73 ev76
  simp only [List.foldl_cons, List.foldl_nil, List.setIfInBounds_toArray, List.set_cons_zero, List.set_cons_succ]
  replace OR := OR.drawn.keep hb_
  replace O_8 := O_8.drawn.keep hb_
  replace O_9 := O_9.drawn.keep hb_
  replace O_10 := O_10.drawn.keep hb_
  replace O_11 := O_11.drawn.keep hb_
  replace O_14 := O_14.drawn.keep hb_
  replace O_15 := O_15.drawn.keep hb_
  replace M_p := Lib.hid ((M_p.out.keep (Below.refl _ _).drew).keep hb_)
  replace M_q := Lib.hid ((M_q.out.keep (Below.refl _ _).drew).keep hb_)
  replace M_r := Lib.hid ((M_r.out.keep (Below.refl _ _).drew).keep hb_)
  replace M_s := Lib.hid ((M_s.out.keep (Below.refl _ _).drew).keep hb_)
  replace M_d := Lib.hid ((M_d.out.keep (Below.refl _ _).drew).keep hb_)
  replace M_n := Lib.hid ((M_n.out.keep (Below.refl _ _).drew).keep hb_)
  replace hB := then_ hB.drew hb_ hB.size
  clear hb_
  have M_x := Lib.hid N_x
  clear N_x
  have M_y := Lib.hid N_y
  clear N_y
  refine tree_one (i := 8) (by kernel_rfl) rfl ⟨_, rfl, fun K hK => ?_⟩
  obtain ⟨P1, P2, P3⟩ := O_16.at_
  go_wp2
  clear P1 P2 P3
  refine hK _ _ trivial ?_
  clear hK K
  obtain ⟨V9, hX⟩ : ∃ X, (V8.setCell ⟨g16, 0, none⟩ (.bool s_x)).setCell ⟨g16, 1, none⟩ (.slice a_x l_x c_x) = X := ⟨_, rfl⟩
  rw [hX]
  have M_p_ := Lib.hid (hX ▸ (((M_p.out.aside O_16).put (p := g16) (i := 0) (by rintro ⟨_, h⟩; exact h rfl) (.bool s_x)).put (p := g16) (i := 1) (by rintro ⟨_, h⟩; exact h rfl) (.slice a_x l_x c_x)).mono (S' := fun _ => True) (fun _ _ _ => trivial))
  have M_q_ := Lib.hid (hX ▸ (((M_q.out.aside O_16).put (p := g16) (i := 0) (by rintro ⟨_, h⟩; exact h rfl) (.bool s_x)).put (p := g16) (i := 1) (by rintro ⟨_, h⟩; exact h rfl) (.slice a_x l_x c_x)).mono (S' := fun _ => True) (fun _ _ _ => trivial))
  have M_r_ := Lib.hid (hX ▸ (((M_r.out.aside O_16).put (p := g16) (i := 0) (by rintro ⟨_, h⟩; exact h rfl) (.bool s_x)).put (p := g16) (i := 1) (by rintro ⟨_, h⟩; exact h rfl) (.slice a_x l_x c_x)).mono (S' := fun _ => True) (fun _ _ _ => trivial))
  have M_s_ := Lib.hid (hX ▸ (((M_s.out.aside O_16).put (p := g16) (i := 0) (by rintro ⟨_, h⟩; exact h rfl) (.bool s_x)).put (p := g16) (i := 1) (by rintro ⟨_, h⟩; exact h rfl) (.slice a_x l_x c_x)).mono (S' := fun _ => True) (fun _ _ _ => trivial))
  have M_d_ := Lib.hid (hX ▸ (((M_d.out.aside O_16).put (p := g16) (i := 0) (by rintro ⟨_, h⟩; exact h rfl) (.bool s_x)).put (p := g16) (i := 1) (by rintro ⟨_, h⟩; exact h rfl) (.slice a_x l_x c_x)).mono (S' := fun _ => True) (fun _ _ _ => trivial))
  have M_n_ := Lib.hid (hX ▸ (((M_n.out.aside O_16).put (p := g16) (i := 0) (by rintro ⟨_, h⟩; exact h rfl) (.bool s_x)).put (p := g16) (i := 1) (by rintro ⟨_, h⟩; exact h rfl) (.slice a_x l_x c_x)).mono (S' := fun _ => True) (fun _ _ _ => trivial))
  have M_x_ := Lib.hid (hX ▸ (((M_x.out.aside O_16).put (p := g16) (i := 0) (by rintro ⟨_, h⟩; exact h rfl) (.bool s_x)).put (p := g16) (i := 1) (by rintro ⟨_, h⟩; exact h rfl) (.slice a_x l_x c_x)).mono (S' := fun _ => True) (fun _ _ _ => trivial))
  have M_y_ := Lib.hid (hX ▸ (((M_y.out.aside O_16).put (p := g16) (i := 0) (by rintro ⟨_, h⟩; exact h rfl) (.bool s_x)).put (p := g16) (i := 1) (by rintro ⟨_, h⟩; exact h rfl) (.slice a_x l_x c_x)).mono (S' := fun _ => True) (fun _ _ _ => trivial))
  have OR_ := hX ▸ ((OR.apart (q := g16) (by omega) 0 (.bool s_x)).apart (q := g16) (by omega) 1 (.slice a_x l_x c_x))
  have O_8_ := hX ▸ ((O_8.apart (q := g16) (by omega) 0 (.bool s_x)).apart (q := g16) (by omega) 1 (.slice a_x l_x c_x))
  have O_9_ := hX ▸ ((O_9.apart (q := g16) (by omega) 0 (.bool s_x)).apart (q := g16) (by omega) 1 (.slice a_x l_x c_x))
  have O_10_ := hX ▸ ((O_10.apart (q := g16) (by omega) 0 (.bool s_x)).apart (q := g16) (by omega) 1 (.slice a_x l_x c_x))
  have O_11_ := hX ▸ ((O_11.apart (q := g16) (by omega) 0 (.bool s_x)).apart (q := g16) (by omega) 1 (.slice a_x l_x c_x))
  have O_14_ := hX ▸ ((O_14.apart (q := g16) (by omega) 0 (.bool s_x)).apart (q := g16) (by omega) 1 (.slice a_x l_x c_x))
  have O_15_ := hX ▸ ((O_15.apart (q := g16) (by omega) 0 (.bool s_x)).apart (q := g16) (by omega) 1 (.slice a_x l_x c_x))
  have O_16_ : Own V9 g16 42 #[.bool s_x, .slice a_x l_x c_x] := hX ▸ (((O_16.put 0 _).put 1 _).as rfl)
  have O_17_ := hX ▸ ((O_17.apart (q := g16) (by omega) 0 (.bool s_x)).apart (q := g16) (by omega) 1 (.slice a_x l_x c_x))
  have hB_ : Below w.heap.size w V9 := hX ▸ ((hB.setCell (by show w.heap.size ≤ g16; omega) _).setCell (by show w.heap.size ≤ g16; omega) _)
  clear hX M_p M_q M_r M_s M_d M_n M_x M_y OR O_8 O_9 O_10 O_11 O_14 O_15 O_16 O_17 hB
  have M_p := M_p_
  have M_q := M_q_
  have M_r := M_r_
  have M_s := M_s_
  have M_d := M_d_
  have M_n := M_n_
  have M_x := M_x_
  have M_y := M_y_
  have OR := OR_
  have O_8 := O_8_
  have O_9 := O_9_
  have O_10 := O_10_
  have O_11 := O_11_
  have O_14 := O_14_
  have O_15 := O_15_
  have O_16 := O_16_
  have O_17 := O_17_
  have hB := hB_
  clear M_p_ M_q_ M_r_ M_s_ M_d_ M_n_ M_x_ M_y_ OR_ O_8_ O_9_ O_10_ O_11_ O_14_ O_15_ O_16_ O_17_ hB_
  refine tree_one (i := 9) (by kernel_rfl) rfl ⟨_, rfl, fun K hK => ?_⟩
  obtain ⟨P1, P2, P3⟩ := O_17.at_
  go_wp2
  clear P1 P2 P3
  refine hK _ _ trivial ?_
  clear hK K
  obtain ⟨V10, hX⟩ : ∃ X, (V9.setCell ⟨g17, 0, none⟩ (.bool s_y)).setCell ⟨g17, 1, none⟩ (.slice a_y l_y c_y) = X := ⟨_, rfl⟩
  rw [hX]
  have M_p_ := Lib.hid (hX ▸ (((M_p.out.aside O_17).put (p := g17) (i := 0) (by rintro ⟨_, h⟩; exact h rfl) (.bool s_y)).put (p := g17) (i := 1) (by rintro ⟨_, h⟩; exact h rfl) (.slice a_y l_y c_y)).mono (S' := fun _ => True) (fun _ _ _ => trivial))
  have M_q_ := Lib.hid (hX ▸ (((M_q.out.aside O_17).put (p := g17) (i := 0) (by rintro ⟨_, h⟩; exact h rfl) (.bool s_y)).put (p := g17) (i := 1) (by rintro ⟨_, h⟩; exact h rfl) (.slice a_y l_y c_y)).mono (S' := fun _ => True) (fun _ _ _ => trivial))
  have M_r_ := Lib.hid (hX ▸ (((M_r.out.aside O_17).put (p := g17) (i := 0) (by rintro ⟨_, h⟩; exact h rfl) (.bool s_y)).put (p := g17) (i := 1) (by rintro ⟨_, h⟩; exact h rfl) (.slice a_y l_y c_y)).mono (S' := fun _ => True) (fun _ _ _ => trivial))
  have M_s_ := Lib.hid (hX ▸ (((M_s.out.aside O_17).put (p := g17) (i := 0) (by rintro ⟨_, h⟩; exact h rfl) (.bool s_y)).put (p := g17) (i := 1) (by rintro ⟨_, h⟩; exact h rfl) (.slice a_y l_y c_y)).mono (S' := fun _ => True) (fun _ _ _ => trivial))
  have M_d_ := Lib.hid (hX ▸ (((M_d.out.aside O_17).put (p := g17) (i := 0) (by rintro ⟨_, h⟩; exact h rfl) (.bool s_y)).put (p := g17) (i := 1) (by rintro ⟨_, h⟩; exact h rfl) (.slice a_y l_y c_y)).mono (S' := fun _ => True) (fun _ _ _ => trivial))
  have M_n_ := Lib.hid (hX ▸ (((M_n.out.aside O_17).put (p := g17) (i := 0) (by rintro ⟨_, h⟩; exact h rfl) (.bool s_y)).put (p := g17) (i := 1) (by rintro ⟨_, h⟩; exact h rfl) (.slice a_y l_y c_y)).mono (S' := fun _ => True) (fun _ _ _ => trivial))
  have M_x_ := Lib.hid (hX ▸ (((M_x.out.aside O_17).put (p := g17) (i := 0) (by rintro ⟨_, h⟩; exact h rfl) (.bool s_y)).put (p := g17) (i := 1) (by rintro ⟨_, h⟩; exact h rfl) (.slice a_y l_y c_y)).mono (S' := fun _ => True) (fun _ _ _ => trivial))
  have M_y_ := Lib.hid (hX ▸ (((M_y.out.aside O_17).put (p := g17) (i := 0) (by rintro ⟨_, h⟩; exact h rfl) (.bool s_y)).put (p := g17) (i := 1) (by rintro ⟨_, h⟩; exact h rfl) (.slice a_y l_y c_y)).mono (S' := fun _ => True) (fun _ _ _ => trivial))
  have OR_ := hX ▸ ((OR.apart (q := g17) (by omega) 0 (.bool s_y)).apart (q := g17) (by omega) 1 (.slice a_y l_y c_y))
  have O_8_ := hX ▸ ((O_8.apart (q := g17) (by omega) 0 (.bool s_y)).apart (q := g17) (by omega) 1 (.slice a_y l_y c_y))
  have O_9_ := hX ▸ ((O_9.apart (q := g17) (by omega) 0 (.bool s_y)).apart (q := g17) (by omega) 1 (.slice a_y l_y c_y))
  have O_10_ := hX ▸ ((O_10.apart (q := g17) (by omega) 0 (.bool s_y)).apart (q := g17) (by omega) 1 (.slice a_y l_y c_y))
  have O_11_ := hX ▸ ((O_11.apart (q := g17) (by omega) 0 (.bool s_y)).apart (q := g17) (by omega) 1 (.slice a_y l_y c_y))
  have O_14_ := hX ▸ ((O_14.apart (q := g17) (by omega) 0 (.bool s_y)).apart (q := g17) (by omega) 1 (.slice a_y l_y c_y))
  have O_15_ := hX ▸ ((O_15.apart (q := g17) (by omega) 0 (.bool s_y)).apart (q := g17) (by omega) 1 (.slice a_y l_y c_y))
  have O_16_ := hX ▸ ((O_16.apart (q := g17) (by omega) 0 (.bool s_y)).apart (q := g17) (by omega) 1 (.slice a_y l_y c_y))
  have O_17_ : Own V10 g17 42 #[.bool s_y, .slice a_y l_y c_y] := hX ▸ (((O_17.put 0 _).put 1 _).as rfl)
  have hB_ : Below w.heap.size w V10 := hX ▸ ((hB.setCell (by show w.heap.size ≤ g17; omega) _).setCell (by show w.heap.size ≤ g17; omega) _)
  clear hX M_p M_q M_r M_s M_d M_n M_x M_y OR O_8 O_9 O_10 O_11 O_14 O_15 O_16 O_17 hB
  have M_p := M_p_
  have M_q := M_q_
  have M_r := M_r_
  have M_s := M_s_
  have M_d := M_d_
  have M_n := M_n_
  have M_x := M_x_
  have M_y := M_y_
  have OR := OR_
  have O_8 := O_8_
  have O_9 := O_9_
  have O_10 := O_10_
  have O_11 := O_11_
  have O_14 := O_14_
  have O_15 := O_15_
  have O_16 := O_16_
  have O_17 := O_17_
  have hB := hB_
  clear M_p_ M_q_ M_r_ M_s_ M_d_ M_n_ M_x_ M_y_ OR_ O_8_ O_9_ O_10_ O_11_ O_14_ O_15_ O_16_ O_17_ hB_
  refine tree_end (by kernel_rfl) ?_
  go_upto_region 15 with fail
  cases t1
  · replace EV := Lib.hid (EV.out rfl)
    obtain ⟨P1, P2, P3⟩ := O_16.at_
    obtain ⟨Q1, Q2, Q3⟩ := O_17.at_
    go_upto_region 16 with (go_at_call 15; refine (fit_is (x := an * bd) (y := bn * ad) FT1.out _ (by repeat' (first | (with_reducible assumption) | (with_reducible refine Own.drawnN ?_ _) | (with_reducible refine Own.drawn ?_) | (with_reducible refine Own.made_at ?_; first | rfl | (simp; done) | omega | (simp; omega)) | (with_reducible refine Own.more ?_ _) | (with_reducible refine Own.apart ?_ ?_ _ _; rotate_left; first | omega | (simp; done) | (simp; omega)) | (refine Own.put ?_ _ _))) (M_x.out.keep (by repeat' (first | (with_reducible exact Below.refl _ _) | (with_reducible assumption) | (with_reducible refine below_drewN ?_ _) | (with_reducible refine Below.drew ?_) | (with_reducible refine Below.alloc ?_ ?_ _) | (with_reducible refine Below.setCell ?_ ?_ _) | (with_reducible refine then_ ?_ (by with_reducible assumption) ?_) | (with_reducible exact Nat.le_refl _) | (with_reducible exact Nat.le_succ _) | (with_reducible exact Nat.le_succ_of_le (by with_reducible assumption)) | omega | (simp; done) | (simp; omega) | (exact Nat.le_succ _) | (exact Nat.le_succ_of_le (by with_reducible assumption))))) (M_y.out.keep (by repeat' (first | (with_reducible exact Below.refl _ _) | (with_reducible assumption) | (with_reducible refine below_drewN ?_ _) | (with_reducible refine Below.drew ?_) | (with_reducible refine Below.alloc ?_ ?_ _) | (with_reducible refine Below.setCell ?_ ?_ _) | (with_reducible refine then_ ?_ (by with_reducible assumption) ?_) | (with_reducible exact Nat.le_refl _) | (with_reducible exact Nat.le_succ _) | (with_reducible exact Nat.le_succ_of_le (by with_reducible assumption)) | omega | (simp; done) | (simp; omega) | (exact Nat.le_succ _) | (exact Nat.le_succ_of_le (by with_reducible assumption)))))).mono ?_; rintro e u11 ⟨rfl, hbu⟩; have hbf : Below V10.heap.size V10 u11 := then_ (by repeat' (first | (with_reducible exact Below.refl _ _) | (with_reducible assumption) | (with_reducible refine below_drewN ?_ _) | (with_reducible refine Below.drew ?_) | (with_reducible refine Below.alloc ?_ ?_ _) | (with_reducible refine Below.setCell ?_ ?_ _) | (with_reducible refine then_ ?_ (by with_reducible assumption) ?_) | (with_reducible exact Nat.le_refl _) | (with_reducible exact Nat.le_succ _) | (with_reducible exact Nat.le_succ_of_le (by with_reducible assumption)) | omega | (simp; done) | (simp; omega) | (exact Nat.le_succ _) | (exact Nat.le_succ_of_le (by with_reducible assumption)))) hbu (by simp); clear hbu P1 P2 P3 Q1 Q2 Q3)
    replace OR := OR.keep hbf
    replace O_8 := O_8.keep hbf
    replace O_9 := O_9.keep hbf
    replace O_10 := O_10.keep hbf
    replace O_11 := O_11.keep hbf
    replace O_14 := O_14.keep hbf
    replace O_15 := O_15.keep hbf
    replace O_16 := O_16.keep hbf
    replace O_17 := O_17.keep hbf
    replace M_p := Lib.hid (M_p.out.keep hbf)
    replace M_q := Lib.hid (M_q.out.keep hbf)
    replace M_r := Lib.hid (M_r.out.keep hbf)
    replace M_s := Lib.hid (M_s.out.keep hbf)
    replace M_d := Lib.hid (M_d.out.keep hbf)
    replace M_n := Lib.hid (M_n.out.keep hbf)
    replace M_x := Lib.hid (M_x.out.keep hbf)
    replace M_y := Lib.hid (M_y.out.keep hbf)
    replace hB := then_ hB hbf hB.size
    clear hbf
    obtain ⟨R1, R2, R3⟩ := OR.at_
    go_wp2
    clear zi1_OA zi1_OB zi1_OR zj1 zz6 zk_OR zk_O_8 zk_O_9 zk_O_10 zk_O_11 zk_O_14 zz7 zl_OR zl_O_8 zl_O_9 zl_O_10 zl_O_11 zl_O_14 zl_O_15 zi8_OR zi8_O_8 zi8_O_9 zi8_O_10 zi8_O_11 zi8_O_14 zi8_O_15
    refine bodyPost_ret (by first | (simp [results, Tryd.results6, go_sem, R1]; done) | (simp [results, Tryd.results6, go_sem, R1]; rfl)) rfl ⟨by rw [EV.out] <;> rfl, ?_⟩
    repeat' (first | (with_reducible exact Below.refl _ _) | (with_reducible assumption) | (with_reducible refine below_drewN ?_ _) | (with_reducible refine Below.drew ?_) | (with_reducible refine Below.alloc ?_ ?_ _) | (with_reducible refine Below.setCell ?_ ?_ _) | (with_reducible refine then_ ?_ (by with_reducible assumption) ?_) | (with_reducible exact Nat.le_refl _) | (with_reducible exact Nat.le_succ _) | (with_reducible exact Nat.le_succ_of_le (by with_reducible assumption)) | omega | (simp; done) | (simp; omega) | (exact Nat.le_succ _) | (exact Nat.le_succ_of_le (by with_reducible assumption)))
  · have fx := FX.out rfl
    have fy := FY.out rfl
    replace EVn := Lib.hid (EVn.out rfl)
    replace EVy := Lib.hid (EVy.out rfl)
    obtain ⟨P1, P2, P3⟩ := O_16.at_
    obtain ⟨Q1, Q2, Q3⟩ := O_17.at_
    go_upto_region 17 with (go_at_call 15; refine (fit_is (x := an * bd) (y := bn * ad) FT1.out _ (by repeat' (first | (with_reducible assumption) | (with_reducible refine Own.drawnN ?_ _) | (with_reducible refine Own.drawn ?_) | (with_reducible refine Own.made_at ?_; first | rfl | (simp; done) | omega | (simp; omega)) | (with_reducible refine Own.more ?_ _) | (with_reducible refine Own.apart ?_ ?_ _ _; rotate_left; first | omega | (simp; done) | (simp; omega)) | (refine Own.put ?_ _ _))) (M_x.out.keep (by repeat' (first | (with_reducible exact Below.refl _ _) | (with_reducible assumption) | (with_reducible refine below_drewN ?_ _) | (with_reducible refine Below.drew ?_) | (with_reducible refine Below.alloc ?_ ?_ _) | (with_reducible refine Below.setCell ?_ ?_ _) | (with_reducible refine then_ ?_ (by with_reducible assumption) ?_) | (with_reducible exact Nat.le_refl _) | (with_reducible exact Nat.le_succ _) | (with_reducible exact Nat.le_succ_of_le (by with_reducible assumption)) | omega | (simp; done) | (simp; omega) | (exact Nat.le_succ _) | (exact Nat.le_succ_of_le (by with_reducible assumption))))) (M_y.out.keep (by repeat' (first | (with_reducible exact Below.refl _ _) | (with_reducible assumption) | (with_reducible refine below_drewN ?_ _) | (with_reducible refine Below.drew ?_) | (with_reducible refine Below.alloc ?_ ?_ _) | (with_reducible refine Below.setCell ?_ ?_ _) | (with_reducible refine then_ ?_ (by with_reducible assumption) ?_) | (with_reducible exact Nat.le_refl _) | (with_reducible exact Nat.le_succ _) | (with_reducible exact Nat.le_succ_of_le (by with_reducible assumption)) | omega | (simp; done) | (simp; omega) | (exact Nat.le_succ _) | (exact Nat.le_succ_of_le (by with_reducible assumption)))))).mono ?_; rintro e u11 ⟨rfl, hbu⟩; have hbf : Below V10.heap.size V10 u11 := then_ (by repeat' (first | (with_reducible exact Below.refl _ _) | (with_reducible assumption) | (with_reducible refine below_drewN ?_ _) | (with_reducible refine Below.drew ?_) | (with_reducible refine Below.alloc ?_ ?_ _) | (with_reducible refine Below.setCell ?_ ?_ _) | (with_reducible refine then_ ?_ (by with_reducible assumption) ?_) | (with_reducible exact Nat.le_refl _) | (with_reducible exact Nat.le_succ _) | (with_reducible exact Nat.le_succ_of_le (by with_reducible assumption)) | omega | (simp; done) | (simp; omega) | (exact Nat.le_succ _) | (exact Nat.le_succ_of_le (by with_reducible assumption)))) hbu (by simp); clear hbu P1 P2 P3 Q1 Q2 Q3)
    replace OR := OR.keep hbf
    replace O_8 := O_8.keep hbf
    replace O_9 := O_9.keep hbf
    replace O_10 := O_10.keep hbf
    replace O_11 := O_11.keep hbf
    replace O_14 := O_14.keep hbf
    replace O_15 := O_15.keep hbf
    replace O_16 := O_16.keep hbf
    replace O_17 := O_17.keep hbf
    replace M_p := Lib.hid (M_p.out.keep hbf)
    replace M_q := Lib.hid (M_q.out.keep hbf)
    replace M_r := Lib.hid (M_r.out.keep hbf)
    replace M_s := Lib.hid (M_s.out.keep hbf)
    replace M_d := Lib.hid (M_d.out.keep hbf)
    replace M_n := Lib.hid (M_n.out.keep hbf)
    replace M_x := Lib.hid (M_x.out.keep hbf)
    replace M_y := Lib.hid (M_y.out.keep hbf)
    replace hB := then_ hB hbf hB.size
    clear hbf
    have zi12_OR := OR.in_
    have zi12_O_8 := O_8.in_
    have zi12_O_9 := O_9.in_
    have zi12_O_10 := O_10.in_
    have zi12_O_11 := O_11.in_
    have zi12_O_14 := O_14.in_
    have zi12_O_15 := O_15.in_
    have zi12_O_16 := O_16.in_
    have zi12_O_17 := O_17.in_
    obtain ⟨P1, P2, P3⟩ := O_16.at_
    obtain ⟨Q1, Q2, Q3⟩ := O_17.at_
    obtain ⟨R1, R2, R3⟩ := O_15.at_
    go_upto_region 18 with (go_at_call 17; refine (add_P fx (len16 fy) u11 M_x.out M_y.out).mono ?_; rintro e u12 ⟨v_m, rfl, hn, hbu⟩; obtain ⟨s_m, a_m, l_m, c_m, rfl⟩ := hn.shape; have N_m := Lib.hid hn; clear hn P1 P2 P3 Q1 Q2 Q3 R1 R2 R3; obtain ⟨R1, R2, R3⟩ := (O_15.keep hbu).at_)
    clear R1 R2 R3
    replace OR := OR.keep hbu
    replace O_8 := O_8.keep hbu
    replace O_9 := O_9.keep hbu
    replace O_10 := O_10.keep hbu
    replace O_11 := O_11.keep hbu
    replace O_14 := O_14.keep hbu
    replace O_15 := O_15.keep hbu
    replace O_16 := O_16.keep hbu
    replace O_17 := O_17.keep hbu
    replace M_p := Lib.hid (M_p.out.keep hbu)
    replace M_q := Lib.hid (M_q.out.keep hbu)
    replace M_r := Lib.hid (M_r.out.keep hbu)
    replace M_s := Lib.hid (M_s.out.keep hbu)
    replace M_d := Lib.hid (M_d.out.keep hbu)
    replace M_n := Lib.hid (M_n.out.keep hbu)
    replace M_x := Lib.hid (M_x.out.keep hbu)
    replace M_y := Lib.hid (M_y.out.keep hbu)
    replace hB := then_ hB hbu hB.size
    clear hbu
    have M_m := N_m
    clear N_m
    go_name_world V12 hX
    have M_p_ := Lib.hid (hX ▸ (((M_p.out.aside O_15).put (p := u7.heap.size) (i := 0) (by rintro ⟨_, h⟩; exact h rfl) (.bool s_m)).put (p := u7.heap.size) (i := 1) (by rintro ⟨_, h⟩; exact h rfl) (.slice a_m l_m c_m)).mono (S' := fun _ => True) (fun _ _ _ => trivial))
    have M_q_ := Lib.hid (hX ▸ (((M_q.out.aside O_15).put (p := u7.heap.size) (i := 0) (by rintro ⟨_, h⟩; exact h rfl) (.bool s_m)).put (p := u7.heap.size) (i := 1) (by rintro ⟨_, h⟩; exact h rfl) (.slice a_m l_m c_m)).mono (S' := fun _ => True) (fun _ _ _ => trivial))
    have M_r_ := Lib.hid (hX ▸ (((M_r.out.aside O_15).put (p := u7.heap.size) (i := 0) (by rintro ⟨_, h⟩; exact h rfl) (.bool s_m)).put (p := u7.heap.size) (i := 1) (by rintro ⟨_, h⟩; exact h rfl) (.slice a_m l_m c_m)).mono (S' := fun _ => True) (fun _ _ _ => trivial))
    have M_s_ := Lib.hid (hX ▸ (((M_s.out.aside O_15).put (p := u7.heap.size) (i := 0) (by rintro ⟨_, h⟩; exact h rfl) (.bool s_m)).put (p := u7.heap.size) (i := 1) (by rintro ⟨_, h⟩; exact h rfl) (.slice a_m l_m c_m)).mono (S' := fun _ => True) (fun _ _ _ => trivial))
    have M_d_ := Lib.hid (hX ▸ (((M_d.out.aside O_15).put (p := u7.heap.size) (i := 0) (by rintro ⟨_, h⟩; exact h rfl) (.bool s_m)).put (p := u7.heap.size) (i := 1) (by rintro ⟨_, h⟩; exact h rfl) (.slice a_m l_m c_m)).mono (S' := fun _ => True) (fun _ _ _ => trivial))
    have M_n_ := Lib.hid (hX ▸ (((M_n.out.aside O_15).put (p := u7.heap.size) (i := 0) (by rintro ⟨_, h⟩; exact h rfl) (.bool s_m)).put (p := u7.heap.size) (i := 1) (by rintro ⟨_, h⟩; exact h rfl) (.slice a_m l_m c_m)).mono (S' := fun _ => True) (fun _ _ _ => trivial))
    have M_x_ := Lib.hid (hX ▸ (((M_x.out.aside O_15).put (p := u7.heap.size) (i := 0) (by rintro ⟨_, h⟩; exact h rfl) (.bool s_m)).put (p := u7.heap.size) (i := 1) (by rintro ⟨_, h⟩; exact h rfl) (.slice a_m l_m c_m)).mono (S' := fun _ => True) (fun _ _ _ => trivial))
    have M_y_ := Lib.hid (hX ▸ (((M_y.out.aside O_15).put (p := u7.heap.size) (i := 0) (by rintro ⟨_, h⟩; exact h rfl) (.bool s_m)).put (p := u7.heap.size) (i := 1) (by rintro ⟨_, h⟩; exact h rfl) (.slice a_m l_m c_m)).mono (S' := fun _ => True) (fun _ _ _ => trivial))
    have M_m_ := Lib.hid (hX ▸ (((M_m.out.aside O_15).put (p := u7.heap.size) (i := 0) (by rintro ⟨_, h⟩; exact h rfl) (.bool s_m)).put (p := u7.heap.size) (i := 1) (by rintro ⟨_, h⟩; exact h rfl) (.slice a_m l_m c_m)).mono (S' := fun _ => True) (fun _ _ _ => trivial))
    have OR_ := hX ▸ ((OR.apart (q := u7.heap.size) (by omega) 0 (.bool s_m)).apart (q := u7.heap.size) (by omega) 1 (.slice a_m l_m c_m))
    have O_8_ := hX ▸ ((O_8.apart (q := u7.heap.size) (by omega) 0 (.bool s_m)).apart (q := u7.heap.size) (by omega) 1 (.slice a_m l_m c_m))
    have O_9_ := hX ▸ ((O_9.apart (q := u7.heap.size) (by omega) 0 (.bool s_m)).apart (q := u7.heap.size) (by omega) 1 (.slice a_m l_m c_m))
    have O_10_ := hX ▸ ((O_10.apart (q := u7.heap.size) (by omega) 0 (.bool s_m)).apart (q := u7.heap.size) (by omega) 1 (.slice a_m l_m c_m))
    have O_11_ := hX ▸ ((O_11.apart (q := u7.heap.size) (by omega) 0 (.bool s_m)).apart (q := u7.heap.size) (by omega) 1 (.slice a_m l_m c_m))
    have O_14_ := hX ▸ ((O_14.apart (q := u7.heap.size) (by omega) 0 (.bool s_m)).apart (q := u7.heap.size) (by omega) 1 (.slice a_m l_m c_m))
    have O_15_ : Own V12 (u7.heap.size) 42 #[.bool s_m, .slice a_m l_m c_m] := hX ▸ (((O_15.put 0 _).put 1 _).as rfl)
    have O_16_ := hX ▸ ((O_16.apart (q := u7.heap.size) (by omega) 0 (.bool s_m)).apart (q := u7.heap.size) (by omega) 1 (.slice a_m l_m c_m))
    have O_17_ := hX ▸ ((O_17.apart (q := u7.heap.size) (by omega) 0 (.bool s_m)).apart (q := u7.heap.size) (by omega) 1 (.slice a_m l_m c_m))
    have hB_ : Below w.heap.size w V12 := hX ▸ ((hB.setCell (by show w.heap.size ≤ u7.heap.size; omega) _).setCell (by show w.heap.size ≤ u7.heap.size; omega) _)
    clear hX M_p M_q M_r M_s M_d M_n M_x M_y M_m OR O_8 O_9 O_10 O_11 O_14 O_15 O_16 O_17 hB
    have M_p := M_p_
    have M_q := M_q_
    have M_r := M_r_
    have M_s := M_s_
    have M_d := M_d_
    have M_n := M_n_
    have M_x := M_x_
    have M_y := M_y_
    have M_m := M_m_
    have OR := OR_
    have O_8 := O_8_
    have O_9 := O_9_
    have O_10 := O_10_
    have O_11 := O_11_
    have O_14 := O_14_
    have O_15 := O_15_
    have O_16 := O_16_
    have O_17 := O_17_
    have hB := hB_
    clear M_p_ M_q_ M_r_ M_s_ M_d_ M_n_ M_x_ M_y_ M_m_ OR_ O_8_ O_9_ O_10_ O_11_ O_14_ O_15_ O_16_ O_17_ hB_
    go_upto_region 20 with fail
    cases t
    · replace EVn := Lib.hid (EVn.out rfl)
      obtain ⟨P1, P2, P3⟩ := O_15.at_
      obtain ⟨Q1, Q2, Q3⟩ := O_14.at_
      go_upto_region 21 with (go_at_call 15; refine (fit_is (x := an * bd + bn * ad) (y := ad * bd) FT.out _ (by repeat' (first | (with_reducible assumption) | (with_reducible refine Own.drawnN ?_ _) | (with_reducible refine Own.drawn ?_) | (with_reducible refine Own.made_at ?_; first | rfl | (simp; done) | omega | (simp; omega)) | (with_reducible refine Own.more ?_ _) | (with_reducible refine Own.apart ?_ ?_ _ _; rotate_left; first | omega | (simp; done) | (simp; omega)) | (refine Own.put ?_ _ _))) (M_m.out.keep (by repeat' (first | (with_reducible exact Below.refl _ _) | (with_reducible assumption) | (with_reducible refine below_drewN ?_ _) | (with_reducible refine Below.drew ?_) | (with_reducible refine Below.alloc ?_ ?_ _) | (with_reducible refine Below.setCell ?_ ?_ _) | (with_reducible refine then_ ?_ (by with_reducible assumption) ?_) | (with_reducible exact Nat.le_refl _) | (with_reducible exact Nat.le_succ _) | (with_reducible exact Nat.le_succ_of_le (by with_reducible assumption)) | omega | (simp; done) | (simp; omega) | (exact Nat.le_succ _) | (exact Nat.le_succ_of_le (by with_reducible assumption))))) (M_d.out.keep (by repeat' (first | (with_reducible exact Below.refl _ _) | (with_reducible assumption) | (with_reducible refine below_drewN ?_ _) | (with_reducible refine Below.drew ?_) | (with_reducible refine Below.alloc ?_ ?_ _) | (with_reducible refine Below.setCell ?_ ?_ _) | (with_reducible refine then_ ?_ (by with_reducible assumption) ?_) | (with_reducible exact Nat.le_refl _) | (with_reducible exact Nat.le_succ _) | (with_reducible exact Nat.le_succ_of_le (by with_reducible assumption)) | omega | (simp; done) | (simp; omega) | (exact Nat.le_succ _) | (exact Nat.le_succ_of_le (by with_reducible assumption)))))).mono ?_; rintro e u13 ⟨rfl, hbu⟩; have hbf : Below V12.heap.size V12 u13 := then_ (by repeat' (first | (with_reducible exact Below.refl _ _) | (with_reducible assumption) | (with_reducible refine below_drewN ?_ _) | (with_reducible refine Below.drew ?_) | (with_reducible refine Below.alloc ?_ ?_ _) | (with_reducible refine Below.setCell ?_ ?_ _) | (with_reducible refine then_ ?_ (by with_reducible assumption) ?_) | (with_reducible exact Nat.le_refl _) | (with_reducible exact Nat.le_succ _) | (with_reducible exact Nat.le_succ_of_le (by with_reducible assumption)) | omega | (simp; done) | (simp; omega) | (exact Nat.le_succ _) | (exact Nat.le_succ_of_le (by with_reducible assumption)))) hbu (by simp); clear hbu P1 P2 P3 Q1 Q2 Q3)
      replace OR := OR.keep hbf
      replace O_8 := O_8.keep hbf
      replace O_9 := O_9.keep hbf
      replace O_10 := O_10.keep hbf
      replace O_11 := O_11.keep hbf
      replace O_14 := O_14.keep hbf
      replace O_15 := O_15.keep hbf
      replace O_16 := O_16.keep hbf
      replace O_17 := O_17.keep hbf
      replace M_p := Lib.hid (M_p.out.keep hbf)
      replace M_q := Lib.hid (M_q.out.keep hbf)
      replace M_r := Lib.hid (M_r.out.keep hbf)
      replace M_s := Lib.hid (M_s.out.keep hbf)
      replace M_d := Lib.hid (M_d.out.keep hbf)
      replace M_n := Lib.hid (M_n.out.keep hbf)
      replace M_x := Lib.hid (M_x.out.keep hbf)
      replace M_y := Lib.hid (M_y.out.keep hbf)
      replace M_m := Lib.hid (M_m.out.keep hbf)
      replace hB := then_ hB hbf hB.size
      clear hbf
      obtain ⟨R1, R2, R3⟩ := OR.at_
      go_wp2
      clear zi1_OA zi1_OB zi1_OR zj1 zz6 zk_OR zk_O_8 zk_O_9 zk_O_10 zk_O_11 zk_O_14 zz7 zl_OR zl_O_8 zl_O_9 zl_O_10 zl_O_11 zl_O_14 zl_O_15 zi8_OR zi8_O_8 zi8_O_9 zi8_O_10 zi8_O_11 zi8_O_14 zi8_O_15 zi12_OR zi12_O_8 zi12_O_9 zi12_O_10 zi12_O_11 zi12_O_14 zi12_O_15 zi12_O_16 zi12_O_17
      refine bodyPost_ret (by first | (simp [results, Tryd.results6, go_sem, R1]; done) | (simp [results, Tryd.results6, go_sem, R1]; rfl)) rfl ⟨by rw [EVn.out] <;> rfl, ?_⟩
      repeat' (first | (with_reducible exact Below.refl _ _) | (with_reducible assumption) | (with_reducible refine below_drewN ?_ _) | (with_reducible refine Below.drew ?_) | (with_reducible refine Below.alloc ?_ ?_ _) | (with_reducible refine Below.setCell ?_ ?_ _) | (with_reducible refine then_ ?_ (by with_reducible assumption) ?_) | (with_reducible exact Nat.le_refl _) | (with_reducible exact Nat.le_succ _) | (with_reducible exact Nat.le_succ_of_le (by with_reducible assumption)) | omega | (simp; done) | (simp; omega) | (exact Nat.le_succ _) | (exact Nat.le_succ_of_le (by with_reducible assumption)))
    · have FN := Lib.hid (FN_.out rfl)
      have FD := Lib.hid (FD_.out rfl)
      replace EVy := Lib.hid (EVy.out rfl)
      obtain ⟨P1, P2, P3⟩ := O_15.at_
      obtain ⟨Q1, Q2, Q3⟩ := O_14.at_
      go_upto_region 22 with (go_at_call 15; refine (fit_is (x := an * bd + bn * ad) (y := ad * bd) FT.out _ (by repeat' (first | (with_reducible assumption) | (with_reducible refine Own.drawnN ?_ _) | (with_reducible refine Own.drawn ?_) | (with_reducible refine Own.made_at ?_; first | rfl | (simp; done) | omega | (simp; omega)) | (with_reducible refine Own.more ?_ _) | (with_reducible refine Own.apart ?_ ?_ _ _; rotate_left; first | omega | (simp; done) | (simp; omega)) | (refine Own.put ?_ _ _))) (M_m.out.keep (by repeat' (first | (with_reducible exact Below.refl _ _) | (with_reducible assumption) | (with_reducible refine below_drewN ?_ _) | (with_reducible refine Below.drew ?_) | (with_reducible refine Below.alloc ?_ ?_ _) | (with_reducible refine Below.setCell ?_ ?_ _) | (with_reducible refine then_ ?_ (by with_reducible assumption) ?_) | (with_reducible exact Nat.le_refl _) | (with_reducible exact Nat.le_succ _) | (with_reducible exact Nat.le_succ_of_le (by with_reducible assumption)) | omega | (simp; done) | (simp; omega) | (exact Nat.le_succ _) | (exact Nat.le_succ_of_le (by with_reducible assumption))))) (M_d.out.keep (by repeat' (first | (with_reducible exact Below.refl _ _) | (with_reducible assumption) | (with_reducible refine below_drewN ?_ _) | (with_reducible refine Below.drew ?_) | (with_reducible refine Below.alloc ?_ ?_ _) | (with_reducible refine Below.setCell ?_ ?_ _) | (with_reducible refine then_ ?_ (by with_reducible assumption) ?_) | (with_reducible exact Nat.le_refl _) | (with_reducible exact Nat.le_succ _) | (with_reducible exact Nat.le_succ_of_le (by with_reducible assumption)) | omega | (simp; done) | (simp; omega) | (exact Nat.le_succ _) | (exact Nat.le_succ_of_le (by with_reducible assumption)))))).mono ?_; rintro e u13 ⟨rfl, hbu⟩; have hbf : Below V12.heap.size V12 u13 := then_ (by repeat' (first | (with_reducible exact Below.refl _ _) | (with_reducible assumption) | (with_reducible refine below_drewN ?_ _) | (with_reducible refine Below.drew ?_) | (with_reducible refine Below.alloc ?_ ?_ _) | (with_reducible refine Below.setCell ?_ ?_ _) | (with_reducible refine then_ ?_ (by with_reducible assumption) ?_) | (with_reducible exact Nat.le_refl _) | (with_reducible exact Nat.le_succ _) | (with_reducible exact Nat.le_succ_of_le (by with_reducible assumption)) | omega | (simp; done) | (simp; omega) | (exact Nat.le_succ _) | (exact Nat.le_succ_of_le (by with_reducible assumption)))) hbu (by simp); clear hbu P1 P2 P3 Q1 Q2 Q3)
      replace OR := OR.keep hbf
      replace O_8 := O_8.keep hbf
      replace O_9 := O_9.keep hbf
      replace O_10 := O_10.keep hbf
      replace O_11 := O_11.keep hbf
      replace O_14 := O_14.keep hbf
      replace O_15 := O_15.keep hbf
      replace O_16 := O_16.keep hbf
      replace O_17 := O_17.keep hbf
      replace M_p := Lib.hid (M_p.out.keep hbf)
      replace M_q := Lib.hid (M_q.out.keep hbf)
      replace M_r := Lib.hid (M_r.out.keep hbf)
      replace M_s := Lib.hid (M_s.out.keep hbf)
      replace M_d := Lib.hid (M_d.out.keep hbf)
      replace M_n := Lib.hid (M_n.out.keep hbf)
      replace M_x := Lib.hid (M_x.out.keep hbf)
      replace M_y := Lib.hid (M_y.out.keep hbf)
      replace M_m := Lib.hid (M_m.out.keep hbf)
      replace hB := then_ hB hbf hB.size
      clear hbf
      obtain ⟨P1, P2, P3⟩ := O_15.at_
      obtain ⟨Q1, Q2, Q3⟩ := O_14.at_
      obtain ⟨R1, R2, R3⟩ := OR.at_
      have MK := Lib.hid (made_mk _ _ _ _ _ u13 M_m.out M_d.out HD.out FN.out FD.out)
      obtain ⟨mp, hmp⟩ : ∃ z, mkP (an * bd + bn * ad) (ad * bd) = z := ⟨_, rfl⟩
      obtain ⟨mq, hmq⟩ : ∃ z, mkQ (an * bd + bn * ad) (ad * bd) = z := ⟨_, rfl⟩
      obtain ⟨mr, hmr⟩ : ∃ z, mkR (an * bd + bn * ad) (ad * bd) = z := ⟨_, rfl⟩
      rw [hmp, hmq, hmr] at MK EVy
      clear hmp hmq hmr
      go_wp2_with (go_at_call 16; refine MK.out.mono ?_; rintro e um ⟨rfl, hbm⟩; have ORm := OR.keep hbm; have hBm := then_ hB hbm hB.size; clear R1 R2 R3 P1 P2 P3 Q1 Q2 Q3; obtain ⟨R1, R2, R3⟩ := ORm.at_)
      clear zi1_OA zi1_OB zi1_OR zj1 zz6 zk_OR zk_O_8 zk_O_9 zk_O_10 zk_O_11 zk_O_14 zz7 zl_OR zl_O_8 zl_O_9 zl_O_10 zl_O_11 zl_O_14 zl_O_15 zi8_OR zi8_O_8 zi8_O_9 zi8_O_10 zi8_O_11 zi8_O_14 zi8_O_15 zi12_OR zi12_O_8 zi12_O_9 zi12_O_10 zi12_O_11 zi12_O_14 zi12_O_15 zi12_O_16 zi12_O_17
      refine bodyPost_ret (by first | (simp [results, Tryd.results6, go_sem, R1]; done) | (simp [results, Tryd.results6, go_sem, R1]; rfl)) rfl ⟨by rw [EVy.out] <;> rfl, ?_⟩
      repeat' (first | (with_reducible exact Below.refl _ _) | (with_reducible assumption) | (with_reducible refine below_drewN ?_ _) | (with_reducible refine Below.drew ?_) | (with_reducible refine Below.alloc ?_ ?_ _) | (with_reducible refine Below.setCell ?_ ?_ _) | (with_reducible refine then_ ?_ (by with_reducible assumption) ?_) | (with_reducible exact Nat.le_refl _) | (with_reducible exact Nat.le_succ _) | (with_reducible exact Nat.le_succ_of_le (by with_reducible assumption)) | omega | (simp; done) | (simp; omega) | (exact Nat.le_succ _) | (exact Nat.le_succ_of_le (by with_reducible assumption)))
theorem do_0 {an ad bn bd : Int} (han : Fit an) (had : Fit ad) (hbn : Fit bn) (hbd : Fit bd) (w : World) : Calls Tryd.prog 6 #[.int .i64 0, .agg #[.int .u64 (L0 an), .int .u64 (L1 an), .int .u64 (L2 an), .int .u64 (L3 an), .int .u64 (L0 ad), .int .u64 (L1 ad), .int .u64 (L2 ad), .int .u64 (L3 ad)], .agg #[.int .u64 (L0 bn), .int .u64 (L1 bn), .int .u64 (L2 bn), .int .u64 (L3 bn), .int .u64 (L0 bd), .int .u64 (L1 bd), .int .u64 (L2 bd), .int .u64 (L3 bd)]] w fun e w' => e = .returned (.tuple #[.agg #[.int .u64 (L0 (rkP an ad bn bd (fb (an * bd) && fb (bn * ad) && fb (an * bd + bn * ad) && fb (ad * bd)) (an * bd + bn * ad) (ad * bd))), .int .u64 (L1 (rkP an ad bn bd (fb (an * bd) && fb (bn * ad) && fb (an * bd + bn * ad) && fb (ad * bd)) (an * bd + bn * ad) (ad * bd))), .int .u64 (L2 (rkP an ad bn bd (fb (an * bd) && fb (bn * ad) && fb (an * bd + bn * ad) && fb (ad * bd)) (an * bd + bn * ad) (ad * bd))), .int .u64 (L3 (rkP an ad bn bd (fb (an * bd) && fb (bn * ad) && fb (an * bd + bn * ad) && fb (ad * bd)) (an * bd + bn * ad) (ad * bd))), .int .u64 (L0 (rkQ an ad bn bd (fb (an * bd) && fb (bn * ad) && fb (an * bd + bn * ad) && fb (ad * bd)) (an * bd + bn * ad) (ad * bd))), .int .u64 (L1 (rkQ an ad bn bd (fb (an * bd) && fb (bn * ad) && fb (an * bd + bn * ad) && fb (ad * bd)) (an * bd + bn * ad) (ad * bd))), .int .u64 (L2 (rkQ an ad bn bd (fb (an * bd) && fb (bn * ad) && fb (an * bd + bn * ad) && fb (ad * bd)) (an * bd + bn * ad) (ad * bd))), .int .u64 (L3 (rkQ an ad bn bd (fb (an * bd) && fb (bn * ad) && fb (an * bd + bn * ad) && fb (ad * bd)) (an * bd + bn * ad) (ad * bd)))], .int .i64 (rkE an ad bn bd (fb (an * bd) && fb (bn * ad) && fb (an * bd + bn * ad) && fb (ad * bd)) (an * bd + bn * ad) (ad * bd))]) ∧ Below w.heap.size w w' := by
  rcases Bool.eq_false_or_eq_true (decide (Rgt an ad)) with ra | ra
  · rcases Bool.eq_false_or_eq_true (decide (Rgt bn bd)) with rb | rb
    · have h : (decide (Rgt an ad) && decide (Rgt bn bd)) = true := by rw [ra, rb]; rfl
      have pa := (of_decide_eq_true ra : Rgt an ad).pos
      have pb := (of_decide_eq_true rb : Rgt bn bd).pos
      refine do_0r han had hbn hbd ra rb rfl rfl (fun k => (fb_fit _).1 ((Bool.and_eq_true _ _).mp k).1) (fun k => (fb_fit _).1 ((Bool.and_eq_true _ _).mp k).2) (fun k => (fb_fit _).1 ((Bool.and_eq_true _ _).mp k).1) (fun k => (fb_fit _).1 ((Bool.and_eq_true _ _).mp k).2) (Int.mul_ne_zero (by omega) (by omega)) _ (fun k1 => ?_) (fun k1 k => ?_) (fun k1 k => ?_) w
      · have kk : (fb (an * bd) && fb (bn * ad) && fb (an * bd + bn * ad) && fb (ad * bd)) = false := by rw [k1, Bool.false_and, Bool.false_and]
        unfold rkP rkQ rkE; rw [h, kk]; rfl
      · have kk : (fb (an * bd) && fb (bn * ad) && fb (an * bd + bn * ad) && fb (ad * bd)) = false := by rw [k1, Bool.true_and]; exact k
        unfold rkP rkQ rkE; rw [h, kk]; rfl
      · have kk : (fb (an * bd) && fb (bn * ad) && fb (an * bd + bn * ad) && fb (ad * bd)) = true := by rw [k1, Bool.true_and]; exact k
        unfold rkP rkQ rkE; rw [h, kk]; rfl
    · have h : (decide (Rgt an ad) && decide (Rgt bn bd)) = false := by rw [ra, rb]; rfl
      exact do_no2 han had hbn hbd ra rb _ (by unfold rkP rkQ rkE; rw [h]; rfl) w
  · have h : (decide (Rgt an ad) && decide (Rgt bn bd)) = false := by rw [ra]; rfl
    exact do_no1 han had hbn hbd ra _ (by unfold rkP rkQ rkE; rw [h]; rfl) w
end Go.Proofs.YtjmojddnedngaaaDoor
