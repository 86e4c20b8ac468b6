
/- The reference's CanLink. Conditions: at most 100,000 vertices, and edges. -/
import Derived.Test.YtdkmclaihojknaaPlnU
import Derived.Test.YtdkmclaihojknaaPlnK
namespace Go.Proofs.Ytdkmclaihojknaa.Pl
open Go.ChangeShapes Go.WideShapes Go.ChangeAt Go.RowKit
set_option linter.unusedVariables false
set_option linter.unusedSimpArgs false
section
variable {v e : Value} {vs : List Vx} {es : List Eg} {w : World}
set_option maxRecDepth 10000 in
set_option maxHeartbeats 2000000 in
theorem rcanLink_any (x y : Int) (hv : VIn w v vs) (he : EIn w e es) (hn : vs.length ≤ 100000) (hm : es.length ≤ 100000) : Calls Try.prog 32 #[.agg #[v, e], .int .i64 x, .int .i64 y] w fun r w' => r = .returned (.int .i64 (orArg vs es (cLink vs es x y))) ∧ Below w.heap.size w w' := by
  have RG := Lib.hid (fun W (hW : Below w.heap.size w W) => rright_any (TIn.below hv hW) (TIn.below he hW) hn hm)
  have AT := Lib.hid (fun W (hW : Below w.heap.size w W) (i : Int) (hi : hasV vs i = true) => at_any v e vs i W (TIn.below hv hW) (by obtain ⟨a, c, k⟩ := he.sl; exact ⟨_, _, _, k⟩) hn hi)
  have VX := Lib.hid (fun W (hW : Below w.heap.size w W) (i : Int) => rvertex_any v e vs i W (TIn.below hv hW) (by obtain ⟨a, c, k⟩ := he.sl; exact ⟨_, _, _, k⟩) hn)
  have LK := Lib.hid (fun W (hW : Below w.heap.size w W) => links_any v e es x y W (TIn.below he hW) (by obtain ⟨a, c, k⟩ := hv.sl; exact ⟨_, _, _, k⟩) hm)
  have RON := Lib.hid (fun W (hW : Below w.heap.size w W) (p1 p2 s1 s2 : Int) (hr : FlV vs) hp hs => ron_any v e vs p1 p2 s1 s2 W (TIn.below hv hW) (by obtain ⟨a, c, k⟩ := he.sl; exact ⟨_, _, _, k⟩) hn hr.rng hp hs)
  have RMT := Lib.hid (fun W (hW : Below w.heap.size w W) (p1 p2 s1 s2 : Int) (hV : FlV vs) hE hp hs hps => rmeets_any v e vs es p1 p2 s1 s2 W (TIn.below hv hW) (TIn.below he hW) hn hm es.length (Nat.le_refl _) hV hE hp hs hps)
  rw [List.take_length] at RMT
  obtain ⟨a, cap, rfl⟩ := hv.sl
  obtain ⟨a', cap', rfl⟩ := he.sl
  have BB := Lib.hid (bx1 w 25 #[.slice a vs.length cap, .slice a' es.length cap'])
  have OB := Lib.hid (Own.made w 25 #[.slice a vs.length cap, .slice a' es.length cap'])
  clear hv he
  unfold orArg
  by_cases hrt : Rt vs es
  · have hb := rtB_iff.2 hrt
    rw [hb] at RG ⊢
    rw [if_pos rfl]
    have FV : Hid (FlV vs) := Lib.hid (rt_iff.1 hrt).1
    have FE : Hid (FlE vs es) := Lib.hid (rt_iff.1 hrt).2
    clear hb hrt
    have VA := Lib.hid (fun W hW => VX.out W hW x)
    have VB := Lib.hid (fun W hW => VX.out W hW y)
    have NA := Lib.hid (vIx_neg vs x)
    have NB := Lib.hid (vIx_neg vs y)
    generalize vIx vs x = za at VA NA
    generalize vIx vs y = zb at VB NB
    clear VX
    have GO : ∀ Z : Int, Z = cLink vs es x y → Calls Try.prog 32 #[.agg #[.slice a vs.length cap, .slice a' es.length cap'], .int .i64 x, .int .i64 y] w fun r w' => r = .returned (.int .i64 Z) ∧ Below w.heap.size w w' := by
      intro Z hZ
      have ZD : Hid (Z = cLink vs es x y) := Lib.hid hZ
      clear hZ
      unfold cLink at ZD
      rcases eqq x y with ⟨h0, t0⟩ | ⟨h0, t0⟩
      · obtain rfl : Z = 1 := by rw [ZD.out, if_pos h0]
        clear RON RMT LK AT FV FE
        generalize vs.length = n at *
        generalize es.length = m at *
        obtain ⟨p1, p2, p3⟩ := OB.out.at_
        clear h0
        go_enter Try.func32, Try.ntmps32
        go_wp2_with (go_at_call 24; refine (RG.out _ BB.out).mono ?_; rintro e w1 ⟨rfl, b1⟩; have B1 := Lib.hid (then_ BB.out b1 BB.out.size); have O1 := Lib.hid (OB.out.keep b1); clear b1)
        go_ret
        exact ⟨rfl, B1.out⟩
      · rw [if_neg h0] at ZD
        have S0 := Lib.hid h0
        cases ha : hasV vs x with
        | false =>
          have M1 : Hid (decide (za < 0) = true) := Lib.hid (by have := NA.out; rw [ha] at this; exact this)
          obtain rfl : Z = 6 := by rw [ZD.out, ha]; rfl
          clear RON RMT LK AT FV FE h0
          generalize vs.length = n at *
          generalize es.length = m at *
          obtain ⟨p1, p2, p3⟩ := OB.out.at_
          go_enter Try.func32, Try.ntmps32
          go_upto_region 3 with (go_at_call 24; refine (RG.out _ BB.out).mono ?_; rintro e w1 ⟨rfl, b1⟩; have B1 := Lib.hid (then_ BB.out b1 BB.out.size); have O1 := Lib.hid (OB.out.keep b1); clear b1)
          obtain ⟨p1, p2, p3⟩ := O1.out.at_
          have m1 := M1.out
          go_wp2_with (first | (go_at_call 27; with_reducible refine (VA.out _ B1.out).mono ?_; rintro e w2 ⟨rfl, b2⟩; have B2 := Lib.hid (then_ B1.out b2 B1.out.size); have O2 := Lib.hid (O1.out.keep b2); clear b2; obtain ⟨p1, p2, p3⟩ := O2.out.at_))
          go_ret
          exact ⟨rfl, B2.out⟩
        | true =>
          cases hb : hasV vs y with
          | false =>
            have M1 : Hid (decide (za < 0) = false) := Lib.hid (by have := NA.out; rw [ha] at this; exact this)
            have M2 : Hid (decide (zb < 0) = true) := Lib.hid (by have := NB.out; rw [hb] at this; exact this)
            obtain rfl : Z = 6 := by rw [ZD.out, ha, hb]; rfl
            clear RON RMT LK AT FV FE h0
            generalize vs.length = n at *
            generalize es.length = m at *
            obtain ⟨p1, p2, p3⟩ := OB.out.at_
            go_enter Try.func32, Try.ntmps32
            go_upto_region 3 with (go_at_call 24; refine (RG.out _ BB.out).mono ?_; rintro e w1 ⟨rfl, b1⟩; have B1 := Lib.hid (then_ BB.out b1 BB.out.size); have O1 := Lib.hid (OB.out.keep b1); clear b1)
            obtain ⟨p1, p2, p3⟩ := O1.out.at_
            have m1 := M1.out
            have m2 := M2.out
            go_wp2_with (first | (go_at_call 27; with_reducible refine (VA.out _ B1.out).mono ?_; rintro e w2 ⟨rfl, b2⟩; have B2 := Lib.hid (then_ B1.out b2 B1.out.size); have O2 := Lib.hid (O1.out.keep b2); clear b2; obtain ⟨p1, p2, p3⟩ := O2.out.at_) | (go_at_call 27; with_reducible refine (VB.out _ B2.out).mono ?_; rintro e w3 ⟨rfl, b3⟩; have B3 := Lib.hid (then_ B2.out b3 B2.out.size); have O3 := Lib.hid (O2.out.keep b3); clear b3))
            go_ret
            exact ⟨rfl, B3.out⟩
          | true =>
            have M1 : Hid (decide (za < 0) = false) := Lib.hid (by have := NA.out; rw [ha] at this; exact this)
            have M2 : Hid (decide (zb < 0) = false) := Lib.hid (by have := NB.out; rw [hb] at this; exact this)
            rw [ha, hb] at ZD
            have HA := Lib.hid (fun W (hW : Below w.heap.size w W) => AT.out W hW x ha)
            have HBB := Lib.hid (fun W (hW : Below w.heap.size w W) => AT.out W hW y hb)
            have HO := Lib.hid (fun W (hW : Below w.heap.size w W) => RON.out W hW _ _ _ _ FV.out (px_rng FV.out.rng ha) (px_rng FV.out.rng hb))
            have HMT := Lib.hid (fun W (hW : Below w.heap.size w W) => RMT.out W hW _ _ _ _ FV.out (fun k u hk hu => FE.out.ends u (List.mem_of_getElem? hu)) (px_rng FV.out.rng ha) (px_rng FV.out.rng hb) (px_apart FV.out ha hb S0.out))
            replace ZD : Hid (Z = if jnL es x y = true then 7 else if onV vs (px vs x) (py vs x) (px vs y) (py vs y) = true then 14 else if mtL vs es (px vs x) (py vs x) (px vs y) (py vs y) = true then 15 else if 1024 ≤ es.length then 18 else 0) := Lib.hid (by rw [ZD.out]; rfl)
            clear RON RMT AT FV FE NA NB h0
            generalize jnL es x y = tj at *
            generalize onV vs (px vs x) (py vs x) (px vs y) (py vs y) = tq at *
            generalize mtL vs es (px vs x) (py vs x) (px vs y) (py vs y) = tm at *
            generalize px vs x = ax at *
            generalize py vs x = ay at *
            generalize px vs y = bx at *
            generalize py vs y = byy at *
            generalize vs.length = n at *
            generalize es.length = m at *
            obtain ⟨p1, p2, p3⟩ := OB.out.at_
            clear ha hb
            go_enter Try.func32, Try.ntmps32
            go_upto_region 3 with (go_at_call 24; refine (RG.out _ BB.out).mono ?_; rintro e w1 ⟨rfl, b1⟩; have B1 := Lib.hid (then_ BB.out b1 BB.out.size); have O1 := Lib.hid (OB.out.keep b1); clear b1)
            obtain ⟨p1, p2, p3⟩ := O1.out.at_
            have m1 := M1.out
            have m2 := M2.out
            go_upto_region 5 with (first | (go_at_call 27; with_reducible refine (VA.out _ B1.out).mono ?_; rintro e w2 ⟨rfl, b2⟩; have B2 := Lib.hid (then_ B1.out b2 B1.out.size); have O2 := Lib.hid (O1.out.keep b2); clear b2; obtain ⟨p1, p2, p3⟩ := O2.out.at_) | (go_at_call 27; with_reducible refine (VB.out _ B2.out).mono ?_; rintro e w3 ⟨rfl, b3⟩; have B3 := Lib.hid (then_ B2.out b3 B2.out.size); have O3 := Lib.hid (O2.out.keep b3); clear b3))
            obtain ⟨p1, p2, p3⟩ := O3.out.at_
            cases tj with
            | true =>
              obtain rfl : Z = 7 := by rw [ZD.out]; rfl
              go_wp2_with (go_at_call 45; refine (LK.out _ B3.out).mono ?_; rintro e w4 ⟨rfl, b4⟩; have B4 := Lib.hid (then_ B3.out b4 B3.out.size); have O4 := Lib.hid (O3.out.keep b4); clear b4)
              go_ret
              exact ⟨rfl, B4.out⟩
            | false =>
              go_upto_region 7 with (go_at_call 45; refine (LK.out _ B3.out).mono ?_; rintro e w4 ⟨rfl, b4⟩; have B4 := Lib.hid (then_ B3.out b4 B3.out.size); have O4 := Lib.hid (O3.out.keep b4); clear b4)
              clear p1 p2 p3
              have E4 := B4.out.drew
              cases tq with
              | true =>
                obtain rfl : Z = 14 := by rw [ZD.out]; rfl
                refine wp_region_seq (fun W => Below w.heap.size w W ∧ Own W w.heap.size 25 #[.slice a n cap, .slice a' m cap']) (0 :: 1 :: 2 :: 4 :: 5 :: []) (0 :: 1 :: 4 :: []) (0 :: 1 :: 2 :: 4 :: 5 :: 3 :: 6 :: 7 :: []) (by kernel_rfl) (by kernel_rfl) rfl (by kernel_rfl) rfl (⟨E4, O4.out⟩) (by simp only [picked, List.filterMap_cons, List.filterMap_nil, List.getElem?_cons_zero, List.getElem?_cons_succ, Option.map_some]; exact rfl) ?_
                iterate 5
                  refine seq_want (v := ?_) rfl rfl (fun W hS => ?_) ?_
                  rotate_left
                  · first
                      | (conv => lhs; simp [go_sem]
                         first | done | exact rfl)
                      | (have hS := hS rfl
                         obtain ⟨q0, q1⟩ := pl_two hS.2
                         conv => lhs; simp [go_sem, *]
                         first | done | exact rfl)
                  simp only [Act.put, List.setIfInBounds_toArray, List.set_cons_zero, List.set_cons_succ]
                refine seq_on rfl rfl fun K hK => ?_
                go_wp2_with (go_at_call 47; refine (HA.out _ E4).mono ?_; rintro e y1 ⟨rfl, c1⟩)
                have Y1 := Lib.hid (then_ E4 c1 E4.size)
                have Q1 := Lib.hid (O4.out.drawn.keep c1)
                refine hK _ _ (⟨Y1.out, Q1.out⟩) ?_
                clear hK K c1
                refine seq_on rfl rfl fun K hK => ?_
                go_wp2_with (go_at_call 47; refine (HBB.out _ Y1.out).mono ?_; rintro e y2 ⟨rfl, c2⟩)
                have Y2 := Lib.hid (then_ Y1.out c2 Y1.out.size)
                have Q2 := Lib.hid (Q1.out.keep c2)
                refine hK _ _ (⟨Y2.out, Q2.out⟩) ?_
                clear hK K c2
                refine seq_on rfl rfl fun K hK => ?_
                go_wp2_with (go_at_call 46; refine (HO.out _ Y2.out).mono ?_; rintro e y3 ⟨rfl, c3⟩)
                have Y3 := Lib.hid (then_ Y2.out c3 Y2.out.size)
                have Q3 := Lib.hid (Q2.out.keep c3)
                refine hK _ _ (⟨Y3.out, Q3.out⟩) ?_
                clear hK K c3
                refine seq_end ?_
                go_wp2
                go_ret
                exact ⟨rfl, Y3.out⟩
              | false =>
                refine wp_region_seq (fun W => Below w.heap.size w W ∧ Own W w.heap.size 25 #[.slice a n cap, .slice a' m cap']) (0 :: 1 :: 2 :: 4 :: 5 :: []) (0 :: 1 :: 4 :: []) (0 :: 1 :: 2 :: 4 :: 5 :: 3 :: 6 :: 7 :: []) (by kernel_rfl) (by kernel_rfl) rfl (by kernel_rfl) rfl (⟨E4, O4.out⟩) (by simp only [picked, List.filterMap_cons, List.filterMap_nil, List.getElem?_cons_zero, List.getElem?_cons_succ, Option.map_some]; exact rfl) ?_
                iterate 5
                  refine seq_want (v := ?_) rfl rfl (fun W hS => ?_) ?_
                  rotate_left
                  · first
                      | (conv => lhs; simp [go_sem]
                         first | done | exact rfl)
                      | (have hS := hS rfl
                         obtain ⟨q0, q1⟩ := pl_two hS.2
                         conv => lhs; simp [go_sem, *]
                         first | done | exact rfl)
                  simp only [Act.put, List.setIfInBounds_toArray, List.set_cons_zero, List.set_cons_succ]
                refine seq_on rfl rfl fun K hK => ?_
                go_wp2_with (go_at_call 47; refine (HA.out _ E4).mono ?_; rintro e y1 ⟨rfl, c1⟩)
                have Y1 := Lib.hid (then_ E4 c1 E4.size)
                have Q1 := Lib.hid (O4.out.drawn.keep c1)
                refine hK _ _ (⟨Y1.out, Q1.out⟩) ?_
                clear hK K c1
                refine seq_on rfl rfl fun K hK => ?_
                go_wp2_with (go_at_call 47; refine (HBB.out _ Y1.out).mono ?_; rintro e y2 ⟨rfl, c2⟩)
                have Y2 := Lib.hid (then_ Y1.out c2 Y1.out.size)
                have Q2 := Lib.hid (Q1.out.keep c2)
                refine hK _ _ (⟨Y2.out, Q2.out⟩) ?_
                clear hK K c2
                refine seq_on rfl rfl fun K hK => ?_
                go_wp2_with (go_at_call 46; refine (HO.out _ Y2.out).mono ?_; rintro e y3 ⟨rfl, c3⟩)
                have Y3 := Lib.hid (then_ Y2.out c3 Y2.out.size)
                have Q3 := Lib.hid (Q2.out.keep c3)
                refine hK _ _ (⟨Y3.out, Q3.out⟩) ?_
                clear hK K c3
                refine seq_end ?_
                have E5 := Y3.out.drew
                go_upto_region 9 with fail
                cases tm with
                | true =>
                  obtain rfl : Z = 15 := by rw [ZD.out]; rfl
                  refine wp_region_seq (fun W => Below w.heap.size w W ∧ Own W w.heap.size 25 #[.slice a n cap, .slice a' m cap']) (0 :: 1 :: 2 :: 4 :: 5 :: 7 :: 8 :: 9 :: []) (0 :: 1 :: 4 :: 8 :: []) (0 :: 1 :: 2 :: 4 :: 5 :: 7 :: 8 :: 9 :: 3 :: 6 :: 10 :: []) (by kernel_rfl) (by kernel_rfl) rfl (by kernel_rfl) rfl (⟨E5, Q3.out⟩) (by simp only [picked, List.filterMap_cons, List.filterMap_nil, List.getElem?_cons_zero, List.getElem?_cons_succ, Option.map_some]; exact rfl) ?_
                  iterate 8
                    refine seq_want (v := ?_) rfl rfl (fun W hS => ?_) ?_
                    rotate_left
                    · first
                        | (conv => lhs; simp [go_sem]
                           first | done | exact rfl)
                        | (have hS := hS rfl
                           obtain ⟨q0, q1⟩ := pl_two hS.2
                           conv => lhs; simp [go_sem, *]
                           first | done | exact rfl)
                    simp only [Act.put, List.setIfInBounds_toArray, List.set_cons_zero, List.set_cons_succ]
                  refine seq_on rfl rfl fun K hK => ?_
                  go_wp2_with (go_at_call 47; refine (HA.out _ E5).mono ?_; rintro e y4 ⟨rfl, c4⟩)
                  have Y4 := Lib.hid (then_ E5 c4 E5.size)
                  have Q4 := Lib.hid (Q3.out.drawn.keep c4)
                  refine hK _ _ (⟨Y4.out, Q4.out⟩) ?_
                  clear hK K c4
                  refine seq_on rfl rfl fun K hK => ?_
                  go_wp2_with (go_at_call 47; refine (HBB.out _ Y4.out).mono ?_; rintro e y5 ⟨rfl, c5⟩)
                  have Y5 := Lib.hid (then_ Y4.out c5 Y4.out.size)
                  have Q5 := Lib.hid (Q4.out.keep c5)
                  refine hK _ _ (⟨Y5.out, Q5.out⟩) ?_
                  clear hK K c5
                  refine seq_on rfl rfl fun K hK => ?_
                  go_wp2_with (go_at_call 48; refine (HMT.out _ Y5.out).mono ?_; rintro e y6 ⟨rfl, c6⟩)
                  have Y6 := Lib.hid (then_ Y5.out c6 Y5.out.size)
                  have Q6 := Lib.hid (Q5.out.keep c6)
                  refine hK _ _ (⟨Y6.out, Q6.out⟩) ?_
                  clear hK K c6
                  refine seq_end ?_
                  go_wp2
                  go_ret
                  exact ⟨rfl, Y6.out⟩
                | false =>
                  refine wp_region_seq (fun W => Below w.heap.size w W ∧ Own W w.heap.size 25 #[.slice a n cap, .slice a' m cap']) (0 :: 1 :: 2 :: 4 :: 5 :: 7 :: 8 :: 9 :: []) (0 :: 1 :: 4 :: 8 :: []) (0 :: 1 :: 2 :: 4 :: 5 :: 7 :: 8 :: 9 :: 3 :: 6 :: 10 :: []) (by kernel_rfl) (by kernel_rfl) rfl (by kernel_rfl) rfl (⟨E5, Q3.out⟩) (by simp only [picked, List.filterMap_cons, List.filterMap_nil, List.getElem?_cons_zero, List.getElem?_cons_succ, Option.map_some]; exact rfl) ?_
                  iterate 8
                    refine seq_want (v := ?_) rfl rfl (fun W hS => ?_) ?_
                    rotate_left
                    · first
                        | (conv => lhs; simp [go_sem]
                           first | done | exact rfl)
                        | (have hS := hS rfl
                           obtain ⟨q0, q1⟩ := pl_two hS.2
                           conv => lhs; simp [go_sem, *]
                           first | done | exact rfl)
                    simp only [Act.put, List.setIfInBounds_toArray, List.set_cons_zero, List.set_cons_succ]
                  refine seq_on rfl rfl fun K hK => ?_
                  go_wp2_with (go_at_call 47; refine (HA.out _ E5).mono ?_; rintro e y4 ⟨rfl, c4⟩)
                  have Y4 := Lib.hid (then_ E5 c4 E5.size)
                  have Q4 := Lib.hid (Q3.out.drawn.keep c4)
                  refine hK _ _ (⟨Y4.out, Q4.out⟩) ?_
                  clear hK K c4
                  refine seq_on rfl rfl fun K hK => ?_
                  go_wp2_with (go_at_call 47; refine (HBB.out _ Y4.out).mono ?_; rintro e y5 ⟨rfl, c5⟩)
                  have Y5 := Lib.hid (then_ Y4.out c5 Y4.out.size)
                  have Q5 := Lib.hid (Q4.out.keep c5)
                  refine hK _ _ (⟨Y5.out, Q5.out⟩) ?_
                  clear hK K c5
                  refine seq_on rfl rfl fun K hK => ?_
                  go_wp2_with (go_at_call 48; refine (HMT.out _ Y5.out).mono ?_; rintro e y6 ⟨rfl, c6⟩)
                  have Y6 := Lib.hid (then_ Y5.out c6 Y5.out.size)
                  have Q6 := Lib.hid (Q5.out.keep c6)
                  refine hK _ _ (⟨Y6.out, Q6.out⟩) ?_
                  clear hK K c6
                  refine seq_end ?_
                  obtain ⟨p1, p2, p3⟩ := Q6.out.at_
                  by_cases h5 : 1024 ≤ m
                  · obtain rfl : Z = 18 := by rw [ZD.out, if_neg (by decide), if_neg (by decide), if_neg (by decide), if_pos h5]
                    go_wp2
                    go_ret
                    exact ⟨rfl, Y6.out⟩
                  · obtain rfl : Z = 0 := by rw [ZD.out, if_neg (by decide), if_neg (by decide), if_neg (by decide), if_neg h5]
                    go_wp2
                    go_ret
                    exact ⟨rfl, Y6.out⟩
    exact GO _ rfl
  · have hb := rtB_not hrt
    rw [hb] at RG ⊢
    rw [if_neg (by decide)]
    clear hb hrt AT VX LK RON RMT
    generalize vs.length = n at *
    generalize es.length = m at *
    obtain ⟨p1, p2, p3⟩ := OB.out.at_
    go_enter Try.func32, Try.ntmps32
    go_wp2_with (go_at_call 24; refine (RG.out _ BB.out).mono ?_; rintro e w1 ⟨rfl, b1⟩; have B1 := Lib.hid (then_ BB.out b1 BB.out.size); have O1 := Lib.hid (OB.out.keep b1); clear b1)
    go_ret
    exact ⟨rfl, B1.out⟩
end
end Go.Proofs.Ytdkmclaihojknaa.Pl