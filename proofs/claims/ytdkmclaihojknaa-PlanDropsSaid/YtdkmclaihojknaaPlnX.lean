
/- The reference's CanSplit, CanDrop, CanCut. Conditions: at most 100,000 vertices, and edges. -/
import Derived.Test.YtdkmclaihojknaaPlnU
import Derived.Test.YtdkmclaihojknaaPlnK
namespace Go.Proofs.Ytdkmclaihojknaa.Pl
open Go.ChangeShapes Go.WideShapes Go.ChangeAt Go.RowKit
set_option linter.unusedVariables false
set_option linter.unusedSimpArgs false
section
variable {v e : Value} {vs : List Vx} {es : List Eg} {w : World}
set_option maxRecDepth 10000 in
theorem rcanCut_any (x : Int) (hv : VIn w v vs) (he : EIn w e es) (hn : vs.length ≤ 100000) (hm : es.length ≤ 100000) : Calls Try.prog 35 #[.agg #[v, e], .int .i64 x] w fun r w' => r = .returned (.int .i64 (orArg vs es (cCut es x))) ∧ Below w.heap.size w w' := by
  have RG := Lib.hid (fun W (hW : Below w.heap.size w W) => rright_any (TIn.below hv hW) (TIn.below he hW) hn hm)
  have EX := Lib.hid (fun W (hW : Below w.heap.size w W) => redge_any v e es x W (TIn.below he hW) (by obtain ⟨a, c, k⟩ := hv.sl; exact ⟨_, _, _, k⟩) hm)
  obtain ⟨a, cap, rfl⟩ := hv.sl
  obtain ⟨a', cap', rfl⟩ := he.sl
  have BB := Lib.hid (bx1 w 25 #[.slice a vs.length cap, .slice a' es.length cap'])
  have OB := Lib.hid (Own.made w 25 #[.slice a vs.length cap, .slice a' es.length cap'])
  clear hv he
  have NB := eIx_neg es x
  unfold orArg cCut
  generalize eIx es x = z at *
  generalize hasE es x = t at *
  generalize rtB vs es = R at *
  generalize vs.length = n at *
  generalize es.length = m at *
  obtain ⟨p1, p2, p3⟩ := OB.out.at_
  cases R with
  | false =>
    clear NB
    go_enter Try.func35, Try.ntmps35
    go_wp2_with (go_at_call 24; refine (RG.out _ BB.out).mono ?_; rintro e w1 ⟨rfl, b1⟩; have B1 := Lib.hid (then_ BB.out b1 BB.out.size); have O1 := Lib.hid (OB.out.keep b1); clear b1)
    go_ret
    exact ⟨rfl, B1.out⟩
  | true =>
    have NH := Lib.hid NB
    clear NB
    cases t with
    | false =>
      go_enter Try.func35, Try.ntmps35
      go_upto_region 3 with (go_at_call 24; refine (RG.out _ BB.out).mono ?_; rintro e w1 ⟨rfl, b1⟩; have B1 := Lib.hid (then_ BB.out b1 BB.out.size); have O1 := Lib.hid (OB.out.keep b1); clear b1)
      obtain ⟨p1, p2, p3⟩ := O1.out.at_
      have m1 : decide (z < 0) = true := NH.out
      go_wp2_with (go_at_call 28; refine (EX.out _ B1.out).mono ?_; rintro e w2 ⟨rfl, b2⟩; have B2 := Lib.hid (then_ B1.out b2 B1.out.size); have O2 := Lib.hid (O1.out.keep b2); clear b2)
      go_ret
      exact ⟨rfl, B2.out⟩
    | true =>
      go_enter Try.func35, Try.ntmps35
      go_upto_region 3 with (go_at_call 24; refine (RG.out _ BB.out).mono ?_; rintro e w1 ⟨rfl, b1⟩; have B1 := Lib.hid (then_ BB.out b1 BB.out.size); have O1 := Lib.hid (OB.out.keep b1); clear b1)
      obtain ⟨p1, p2, p3⟩ := O1.out.at_
      have m1 : decide (z < 0) = false := NH.out
      go_wp2_with (go_at_call 28; refine (EX.out _ B1.out).mono ?_; rintro e w2 ⟨rfl, b2⟩; have B2 := Lib.hid (then_ B1.out b2 B1.out.size); have O2 := Lib.hid (O1.out.keep b2); clear b2)
      go_ret
      exact ⟨rfl, B2.out⟩
set_option maxRecDepth 10000 in
theorem rcanDrop_any (x : Int) (hv : VIn w v vs) (he : EIn w e es) (hn : vs.length ≤ 100000) (hm : es.length ≤ 100000) : Calls Try.prog 34 #[.agg #[v, e], .int .i64 x] w fun r w' => r = .returned (.int .i64 (orArg vs es (cDrop vs es x))) ∧ Below w.heap.size w w' := by
  have RG := Lib.hid (fun W (hW : Below w.heap.size w W) => rright_any (TIn.below hv hW) (TIn.below he hW) hn hm)
  have EX := Lib.hid (fun W (hW : Below w.heap.size w W) => rvertex_any v e vs x W (TIn.below hv hW) (by obtain ⟨a, c, k⟩ := he.sl; exact ⟨_, _, _, k⟩) hn)
  have DG := Lib.hid (fun W (hW : Below w.heap.size w W) => rdegree_any v e es x W (TIn.below he hW) (by obtain ⟨a, c, k⟩ := hv.sl; exact ⟨_, _, _, k⟩) hm)
  obtain ⟨a, cap, rfl⟩ := hv.sl
  obtain ⟨a', cap', rfl⟩ := he.sl
  have BB := Lib.hid (bx1 w 25 #[.slice a vs.length cap, .slice a' es.length cap'])
  have OB := Lib.hid (Own.made w 25 #[.slice a vs.length cap, .slice a' es.length cap'])
  clear hv he
  have NB := vIx_neg vs x
  unfold orArg cDrop
  generalize vIx vs x = z at *
  generalize hasV vs x = t at *
  generalize rtB vs es = R at *
  generalize deg es x = D at *
  generalize vs.length = n at *
  generalize es.length = m at *
  obtain ⟨p1, p2, p3⟩ := OB.out.at_
  cases R with
  | false =>
    clear NB
    go_enter Try.func34, Try.ntmps34
    go_wp2_with (go_at_call 24; refine (RG.out _ BB.out).mono ?_; rintro e w1 ⟨rfl, b1⟩; have B1 := Lib.hid (then_ BB.out b1 BB.out.size); have O1 := Lib.hid (OB.out.keep b1); clear b1)
    go_ret
    exact ⟨rfl, B1.out⟩
  | true =>
    have NH := Lib.hid NB
    clear NB
    cases t with
    | false =>
      go_enter Try.func34, Try.ntmps34
      go_upto_region 3 with (go_at_call 24; refine (RG.out _ BB.out).mono ?_; rintro e w1 ⟨rfl, b1⟩; have B1 := Lib.hid (then_ BB.out b1 BB.out.size); have O1 := Lib.hid (OB.out.keep b1); clear b1)
      obtain ⟨p1, p2, p3⟩ := O1.out.at_
      have m1 : decide (z < 0) = true := NH.out
      go_wp2_with (go_at_call 27; refine (EX.out _ B1.out).mono ?_; rintro e w2 ⟨rfl, b2⟩; have B2 := Lib.hid (then_ B1.out b2 B1.out.size); have O2 := Lib.hid (O1.out.keep b2); clear b2)
      go_ret
      exact ⟨rfl, B2.out⟩
    | true =>
      by_cases h0 : 0 < D
      · rw [if_pos rfl, if_neg (by decide), if_pos h0]
        have h1 : (0 : Int) < (D : Int) := by omega
        go_enter Try.func34, Try.ntmps34
        go_upto_region 3 with (go_at_call 24; refine (RG.out _ BB.out).mono ?_; rintro e w1 ⟨rfl, b1⟩; have B1 := Lib.hid (then_ BB.out b1 BB.out.size); have O1 := Lib.hid (OB.out.keep b1); clear b1)
        obtain ⟨p1, p2, p3⟩ := O1.out.at_
        have m1 : decide (z < 0) = false := NH.out
        go_upto_region 5 with (go_at_call 27; refine (EX.out _ B1.out).mono ?_; rintro e w2 ⟨rfl, b2⟩; have B2 := Lib.hid (then_ B1.out b2 B1.out.size); have O2 := Lib.hid (O1.out.keep b2); clear b2)
        obtain ⟨p1, p2, p3⟩ := O2.out.at_
        go_wp2_with (go_at_call 30; refine (DG.out _ B2.out).mono ?_; rintro e w3 ⟨rfl, b3⟩; have B3 := Lib.hid (then_ B2.out b3 B2.out.size); clear b3)
        go_ret
        exact ⟨rfl, B3.out⟩
      · rw [if_pos rfl, if_neg (by decide), if_neg h0]
        obtain rfl : D = 0 := by omega
        go_enter Try.func34, Try.ntmps34
        go_upto_region 3 with (go_at_call 24; refine (RG.out _ BB.out).mono ?_; rintro e w1 ⟨rfl, b1⟩; have B1 := Lib.hid (then_ BB.out b1 BB.out.size); have O1 := Lib.hid (OB.out.keep b1); clear b1)
        obtain ⟨p1, p2, p3⟩ := O1.out.at_
        have m1 : decide (z < 0) = false := NH.out
        go_upto_region 5 with (go_at_call 27; refine (EX.out _ B1.out).mono ?_; rintro e w2 ⟨rfl, b2⟩; have B2 := Lib.hid (then_ B1.out b2 B1.out.size); have O2 := Lib.hid (O1.out.keep b2); clear b2)
        obtain ⟨p1, p2, p3⟩ := O2.out.at_
        go_wp2_with (go_at_call 30; refine (DG.out _ B2.out).mono ?_; rintro e w3 ⟨rfl, b3⟩; have B3 := Lib.hid (then_ B2.out b3 B2.out.size); clear b3)
        go_ret
        exact ⟨rfl, B3.out⟩
set_option maxRecDepth 10000 in
set_option maxHeartbeats 1000000 in
theorem rcanSplit_any (id x y : Int) (hv : VIn w v vs) (he : EIn w e es) (hn : vs.length ≤ 100000) (hm : es.length ≤ 100000) : Calls Try.prog 33 #[.agg #[v, e], .int .i64 id, .agg #[.int .i64 x, .int .i64 y]] w fun r w' => r = .returned (.int .i64 (orArg vs es (cSplit vs es id x y))) ∧ Below w.heap.size w w' := by
  have RG := Lib.hid (fun W (hW : Below w.heap.size w W) => rright_any (TIn.below hv hW) (TIn.below he hW) hn hm)
  have EX := Lib.hid (fun W (hW : Below w.heap.size w W) => redge_any v e es id W (TIn.below he hW) (by obtain ⟨a, c, k⟩ := hv.sl; exact ⟨_, _, _, k⟩) hm)
  have AT := Lib.hid (fun W (hW : Below w.heap.size w W) (i : Int) (hi : hasV vs i = true) => at_any v e vs i W (TIn.below hv hW) (by obtain ⟨a, c, k⟩ := he.sl; exact ⟨_, _, _, k⟩) hn hi)
  have INC := Lib.hid (fun W => RIn_any x y W)
  obtain ⟨a, cap, rfl⟩ := hv.sl
  obtain ⟨a', cap', rfl, hc1', hc2', -, hcl'⟩ := TIn.open_ he
  have BB := Lib.hid ((bx1 w 25 #[.slice a vs.length cap, .slice a' es.length cap']).alloc (bx1 w _ _).size (.cells #[.int .i64 x, .int .i64 y] 27))
  have OB : Hid (Own ((w.alloc (.cells #[.slice a vs.length cap, .slice a' es.length cap'] 25)).alloc (.cells #[.int .i64 x, .int .i64 y] 27)) w.heap.size 25 #[.slice a vs.length cap, .slice a' es.length cap']) := Lib.hid ((Own.made _ _ _).more _)
  have OO : Hid (Own ((w.alloc (.cells #[.slice a vs.length cap, .slice a' es.length cap'] 25)).alloc (.cells #[.int .i64 x, .int .i64 y] 27)) (w.heap.size + 1) 27 #[.int .i64 x, .int .i64 y]) := Lib.hid (Own.made_at (by simp))
  clear hv he
  unfold orArg
  by_cases hrt : Rt vs es
  · have hb := rtB_iff.2 hrt
    rw [hb] at RG ⊢
    rw [if_pos rfl]
    have FV : Hid (FlV vs) := Lib.hid (rt_iff.1 hrt).1
    have FE : Hid (FlE vs es) := Lib.hid (rt_iff.1 hrt).2
    clear hb hrt
    cases hE : hasE es id with
    | false =>
      have NH : Hid (decide (eIx es id < 0) = true) := Lib.hid (by rw [eIx_neg, hE]; rfl)
      have hf : cSplit vs es id x y = 6 := by
        unfold cSplit
        unfold hasE at hE
        rw [Option.isSome_eq_false_iff, Option.isNone_iff_eq_none] at hE
        rw [hE]
      rw [hf]
      generalize eIx es id = z at *
      clear hf hE hcl' FV FE INC AT
      generalize vs.length = n at *
      generalize es.length = m at *
      obtain ⟨p1, p2, p3⟩ := OB.out.at_
      go_enter Try.func33, Try.ntmps33
      go_upto_region 3 with (go_at_call 24; refine (RG.out _ BB.out).mono ?_; rintro e w1 ⟨rfl, b1⟩; have B1 := Lib.hid (then_ BB.out b1 BB.out.size); have O1 := Lib.hid (OB.out.keep b1); clear b1)
      obtain ⟨p1, p2, p3⟩ := O1.out.at_
      have m1 := NH.out
      go_wp2_with (go_at_call 28; refine (EX.out _ B1.out).mono ?_; rintro e w2 ⟨rfl, b2⟩; have B2 := Lib.hid (then_ B1.out b2 B1.out.size); have O2 := Lib.hid (O1.out.keep b2); clear b2)
      go_ret
      exact ⟨rfl, B2.out⟩
    | true =>
      obtain ⟨k, hk, hz, hf⟩ := eIx_yes hE
      rw [hz] at EX
      obtain ⟨h1, h2, h3⟩ := FE.out.ends _ (List.getElem_mem hk)
      obtain ⟨b7, o7, rfl, hb7, hc7⟩ := hcl' k hk
      have H7 := Lib.hid hc7
      have hcs : cSplit vs es id x y = if onB x y (px vs (es[k]'hk).a) (py vs (es[k]'hk).a) (px vs (es[k]'hk).b) (py vs (es[k]'hk).b) = false then 1 else if 512 ≤ vs.length ∨ 1024 ≤ es.length then 18 else 0 := by unfold cSplit; rw [hf]
      rw [hcs]
      clear hcs hf hz hE hcl' hc7
      obtain ⟨u, hu⟩ : ∃ u, u = es[k]'hk := ⟨_, rfl⟩
      rw [← hu] at h1 h2 h3 H7 ⊢
      clear hu
      obtain ⟨y1, y2, y3⟩ := u
      simp only at h1 h2 h3 H7 ⊢
      have HA := Lib.hid (fun W (hW : Below w.heap.size w W) => AT.out W hW y2 h2)
      have HBB := Lib.hid (fun W (hW : Below w.heap.size w W) => AT.out W hW y3 h3)
      have r2 := inB_rng.1 (px_rng FV.out.rng h2)
      have r3 := inB_rng.1 (px_rng FV.out.rng h3)
      have CN : Hid (inB x y = true → ∀ W, Calls Try.prog 49 #[.agg #[.int .i64 x, .int .i64 y], .agg #[.int .i64 (px vs y2), .int .i64 (py vs y2)], .agg #[.int .i64 (px vs y3), .int .i64 (py vs y3)]] W fun e w' => e = .returned (.bool (onB x y (px vs y2) (py vs y2) (px vs y3) (py vs y3))) ∧ Below W.heap.size W w') := Lib.hid fun hin W => by
        rw [on_in (in3_iff.2 ⟨inB_rng.1 hin, r2, r3⟩)]
        exact ROn_in (inB_rng.1 hin) r2 r3 W
      have CO : Hid (inB x y = false → onB x y (px vs y2) (py vs y2) (px vs y3) (py vs y3) = false) := Lib.hid fun hin => on_out (by unfold in3; rw [hin]; rfl)
      clear r2 r3 h1 h2 h3 FV FE AT
      generalize onB x y (px vs y2) (py vs y2) (px vs y3) (py vs y3) = tq at *
      generalize px vs y2 = ax at *
      generalize py vs y2 = ay at *
      generalize px vs y3 = bx at *
      generalize py vs y3 = byy at *
      generalize inB x y = ti at *
      have k8 : k < es.length := hk
      generalize vs.length = n at *
      generalize es.length = m at *
      have k9 : (k : Int) < (m : Int) := by omega
      obtain ⟨Z, hZ⟩ : ∃ Z : Int, Z = if tq = false then 1 else if 512 ≤ n ∨ 1024 ≤ m then 18 else 0 := ⟨_, rfl⟩
      rw [← hZ]
      have ZD := Lib.hid hZ
      clear hZ
      go_enter Try.func33, Try.ntmps33
      go_upto_region 1 with fail
      generalize hW0 : (w.alloc (.cells #[.slice a n cap, .slice (some ⟨b7, o7, none⟩) m cap'] 25)).alloc (.cells #[.int .i64 x, .int .i64 y] 27) = W0 at BB OB OO ⊢
      clear hW0
      have KB : Hid (∀ W, Below W0.heap.size W0 W → Below w.heap.size w W ∧ Own W w.heap.size 25 #[.slice a n cap, .slice (some ⟨b7, o7, none⟩) m cap'] ∧ Own W (w.heap.size + 1) 27 #[.int .i64 x, .int .i64 y]) := Lib.hid fun W hW => ⟨then_ BB.out hW BB.out.size, OB.out.keep hW, OO.out.keep hW⟩
      obtain ⟨p1, p2, p3⟩ := OB.out.at_
      go_upto_region 3 with (go_at_call 24; refine (RG.out _ BB.out).mono ?_; rintro e w1 ⟨rfl, b1⟩; have Y1 := Lib.hid b1; clear b1)
      obtain ⟨p1, p2, p3⟩ := (KB.out _ Y1.out).2.1.at_
      go_upto_region 6 with (go_at_call 28; refine (EX.out _ (KB.out _ Y1.out).1).mono ?_; rintro e w2 ⟨rfl, b2⟩; have Y2 := Lib.hid (then_ Y1.out b2 Y1.out.size); clear b2)
      clear p1 p2 p3
      have E2 := Y2.out.drew
      cases ti with
      | false =>
        obtain rfl : tq = false := CO.out rfl
        obtain rfl : Z = 1 := by rw [ZD.out]; rfl
        refine wp_region_seq (fun W => Below W0.heap.size W0 W) (0 :: 2 :: 3 :: 4 :: 5 :: 6 :: 7 :: 8 :: 9 :: 10 :: 11 :: 12 :: 13 :: 14 :: 15 :: 16 :: 17 :: 18 :: 19 :: 20 :: 21 :: 22 :: 23 :: []) (0 :: []) (0 :: 1 :: 2 :: 3 :: 4 :: 5 :: 6 :: 7 :: 8 :: 9 :: 10 :: 11 :: 12 :: 13 :: 14 :: 15 :: 16 :: 17 :: 18 :: 19 :: 20 :: 21 :: 22 :: 23 :: []) (by kernel_rfl) (by kernel_rfl) rfl (by kernel_rfl) rfl (E2) (by simp only [picked, List.filterMap_cons, List.filterMap_nil, List.getElem?_cons_zero, List.getElem?_cons_succ, Option.map_some]; exact rfl) ?_
        iterate 1
          refine seq_want (v := ?_) rfl rfl (fun W hS => ?_) ?_
          rotate_left
          · first
              | (conv => lhs; simp [go_sem, k9]
                 first | done | exact rfl)
              | (have hS := hS rfl
                 obtain ⟨hbw, h1, h2⟩ := KB.out _ hS
                 obtain ⟨q0, q1⟩ := pl_two h1
                 obtain ⟨g0, g1⟩ := pl_two h2
                 obtain ⟨f1, f2, f3⟩ := H7.out _ hbw
                 conv => lhs; simp [go_sem, *, k9]
                 first | done | exact rfl)
          simp only [Act.put, List.setIfInBounds_toArray, List.set_cons_zero, List.set_cons_succ]
        refine seq_on rfl rfl fun K hK => ?_
        go_wp2_with (go_at_call 44; refine (INC.out _).mono ?_; rintro e y3' ⟨rfl, c3⟩)
        have Y3 := Lib.hid (then_ E2 c3 E2.size)
        refine hK _ _ Y3.out ?_
        clear hK K c3
        iterate 2
          refine seq_want (v := ?_) rfl rfl (fun W hS => ?_) ?_
          rotate_left
          · first
              | (conv => lhs; simp [go_sem, k9]
                 first | done | exact rfl)
              | (have hS := hS rfl
                 obtain ⟨hbw, h1, h2⟩ := KB.out _ hS
                 obtain ⟨q0, q1⟩ := pl_two h1
                 obtain ⟨g0, g1⟩ := pl_two h2
                 obtain ⟨f1, f2, f3⟩ := H7.out _ hbw
                 conv => lhs; simp [go_sem, *, k9]
                 first | done | exact rfl)
          simp only [Act.put, List.setIfInBounds_toArray, List.set_cons_zero, List.set_cons_succ]
        refine seq_skip rfl rfl ?_
        simp only [Act.put, List.setIfInBounds_toArray, List.set_cons_zero, List.set_cons_succ]
        refine seq_skip rfl rfl ?_
        simp only [Act.put, List.setIfInBounds_toArray, List.set_cons_zero, List.set_cons_succ]
        refine seq_skip rfl rfl ?_
        simp only [Act.put, List.setIfInBounds_toArray, List.set_cons_zero, List.set_cons_succ]
        refine seq_skip rfl rfl ?_
        simp only [Act.put, List.setIfInBounds_toArray, List.set_cons_zero, List.set_cons_succ]
        refine seq_skip rfl rfl ?_
        simp only [Act.put, List.setIfInBounds_toArray, List.set_cons_zero, List.set_cons_succ]
        refine seq_skip rfl rfl ?_
        simp only [Act.put, List.setIfInBounds_toArray, List.set_cons_zero, List.set_cons_succ]
        refine seq_skip rfl rfl ?_
        simp only [Act.put, List.setIfInBounds_toArray, List.set_cons_zero, List.set_cons_succ]
        refine seq_skip rfl rfl ?_
        simp only [Act.put, List.setIfInBounds_toArray, List.set_cons_zero, List.set_cons_succ]
        refine seq_skip rfl rfl ?_
        simp only [Act.put, List.setIfInBounds_toArray, List.set_cons_zero, List.set_cons_succ]
        refine seq_skip rfl rfl ?_
        simp only [Act.put, List.setIfInBounds_toArray, List.set_cons_zero, List.set_cons_succ]
        refine seq_skip rfl rfl ?_
        simp only [Act.put, List.setIfInBounds_toArray, List.set_cons_zero, List.set_cons_succ]
        refine seq_skip rfl rfl ?_
        simp only [Act.put, List.setIfInBounds_toArray, List.set_cons_zero, List.set_cons_succ]
        refine seq_skip rfl rfl ?_
        simp only [Act.put, List.setIfInBounds_toArray, List.set_cons_zero, List.set_cons_succ]
        refine seq_skip rfl rfl ?_
        simp only [Act.put, List.setIfInBounds_toArray, List.set_cons_zero, List.set_cons_succ]
        refine seq_skip rfl rfl ?_
        simp only [Act.put, List.setIfInBounds_toArray, List.set_cons_zero, List.set_cons_succ]
        refine seq_skip rfl rfl ?_
        simp only [Act.put, List.setIfInBounds_toArray, List.set_cons_zero, List.set_cons_succ]
        refine seq_skip rfl rfl ?_
        simp only [Act.put, List.setIfInBounds_toArray, List.set_cons_zero, List.set_cons_succ]
        refine seq_skip rfl rfl ?_
        simp only [Act.put, List.setIfInBounds_toArray, List.set_cons_zero, List.set_cons_succ]
        refine seq_skip rfl rfl ?_
        simp only [Act.put, List.setIfInBounds_toArray, List.set_cons_zero, List.set_cons_succ]
        iterate 1
          refine seq_want (v := ?_) rfl rfl (fun W hS => ?_) ?_
          rotate_left
          · first
              | (conv => lhs; simp [go_sem, k9]
                 first | done | exact rfl)
              | (have hS := hS rfl
                 obtain ⟨hbw, h1, h2⟩ := KB.out _ hS
                 obtain ⟨q0, q1⟩ := pl_two h1
                 obtain ⟨g0, g1⟩ := pl_two h2
                 obtain ⟨f1, f2, f3⟩ := H7.out _ hbw
                 conv => lhs; simp [go_sem, *, k9]
                 first | done | exact rfl)
          simp only [Act.put, List.setIfInBounds_toArray, List.set_cons_zero, List.set_cons_succ]
        refine seq_end ?_
        go_wp2
        go_ret
        exact ⟨rfl, (KB.out _ Y3.out).1⟩
      | true =>
        have CK := Lib.hid (CN.out rfl)
        cases tq with
        | false =>
          obtain rfl : Z = 1 := by rw [ZD.out]; rfl
          refine wp_region_seq (fun W => Below W0.heap.size W0 W) (0 :: 2 :: 3 :: 4 :: 5 :: 6 :: 7 :: 8 :: 9 :: 10 :: 11 :: 13 :: 14 :: 15 :: 16 :: 17 :: 18 :: 19 :: 22 :: 23 :: []) (0 :: 4 :: 5 :: 7 :: 11 :: 13 :: 15 :: 19 :: []) (0 :: 1 :: 2 :: 3 :: 4 :: 5 :: 6 :: 7 :: 8 :: 9 :: 10 :: 11 :: 13 :: 14 :: 15 :: 16 :: 17 :: 18 :: 19 :: 12 :: 20 :: 21 :: 22 :: 23 :: []) (by kernel_rfl) (by kernel_rfl) rfl (by kernel_rfl) rfl (E2) (by simp only [picked, List.filterMap_cons, List.filterMap_nil, List.getElem?_cons_zero, List.getElem?_cons_succ, Option.map_some]; exact rfl) ?_
          iterate 1
            refine seq_want (v := ?_) rfl rfl (fun W hS => ?_) ?_
            rotate_left
            · first
                | (conv => lhs; simp [go_sem, k9]
                   first | done | exact rfl)
                | (have hS := hS rfl
                   obtain ⟨hbw, h1, h2⟩ := KB.out _ hS
                   obtain ⟨q0, q1⟩ := pl_two h1
                   obtain ⟨g0, g1⟩ := pl_two h2
                   obtain ⟨f1, f2, f3⟩ := H7.out _ hbw
                   conv => lhs; simp [go_sem, *, k9]
                   first | done | exact rfl)
            simp only [Act.put, List.setIfInBounds_toArray, List.set_cons_zero, List.set_cons_succ]
          refine seq_on rfl rfl fun K hK => ?_
          go_wp2_with (go_at_call 44; refine (INC.out _).mono ?_; rintro e y3' ⟨rfl, c3⟩)
          have Y3 := Lib.hid (then_ E2 c3 E2.size)
          refine hK _ _ Y3.out ?_
          clear hK K c3
          iterate 17
            refine seq_want (v := ?_) rfl rfl (fun W hS => ?_) ?_
            rotate_left
            · first
                | (conv => lhs; simp [go_sem, k9]
                   first | done | exact rfl)
                | (have hS := hS rfl
                   obtain ⟨hbw, h1, h2⟩ := KB.out _ hS
                   obtain ⟨q0, q1⟩ := pl_two h1
                   obtain ⟨g0, g1⟩ := pl_two h2
                   obtain ⟨f1, f2, f3⟩ := H7.out _ hbw
                   conv => lhs; simp [go_sem, *, k9]
                   first | done | exact rfl)
            simp only [Act.put, List.setIfInBounds_toArray, List.set_cons_zero, List.set_cons_succ]
          refine seq_on rfl rfl fun K hK => ?_
          go_wp2_with (go_at_call 47; refine (HA.out _ (KB.out _ Y3.out).1).mono ?_; rintro e y4' ⟨rfl, c4⟩)
          have Y4 := Lib.hid (then_ Y3.out c4 Y3.out.size)
          refine hK _ _ Y4.out ?_
          clear hK K c4
          refine seq_on rfl rfl fun K hK => ?_
          go_wp2_with (go_at_call 47; refine (HBB.out _ (KB.out _ Y4.out).1).mono ?_; rintro e y5' ⟨rfl, c5⟩)
          have Y5 := Lib.hid (then_ Y4.out c5 Y4.out.size)
          refine hK _ _ Y5.out ?_
          clear hK K c5
          refine seq_on rfl rfl fun K hK => ?_
          go_wp2_with (go_at_call 49; refine (CK.out _).mono ?_; rintro e y6' ⟨rfl, c6⟩)
          have Y6 := Lib.hid (then_ Y5.out c6 Y5.out.size)
          refine hK _ _ Y6.out ?_
          clear hK K c6
          iterate 2
            refine seq_want (v := ?_) rfl rfl (fun W hS => ?_) ?_
            rotate_left
            · first
                | (conv => lhs; simp [go_sem, k9]
                   first | done | exact rfl)
                | (have hS := hS rfl
                   obtain ⟨hbw, h1, h2⟩ := KB.out _ hS
                   obtain ⟨q0, q1⟩ := pl_two h1
                   obtain ⟨g0, g1⟩ := pl_two h2
                   obtain ⟨f1, f2, f3⟩ := H7.out _ hbw
                   conv => lhs; simp [go_sem, *, k9]
                   first | done | exact rfl)
            simp only [Act.put, List.setIfInBounds_toArray, List.set_cons_zero, List.set_cons_succ]
          refine seq_end ?_
          go_wp2
          go_ret
          exact ⟨rfl, (KB.out _ Y6.out).1⟩
        | true =>
          refine wp_region_seq (fun W => Below W0.heap.size W0 W) (0 :: 2 :: 3 :: 4 :: 5 :: 6 :: 7 :: 8 :: 9 :: 10 :: 11 :: 13 :: 14 :: 15 :: 16 :: 17 :: 18 :: 19 :: 22 :: 23 :: []) (0 :: 4 :: 5 :: 7 :: 11 :: 13 :: 15 :: 19 :: []) (0 :: 1 :: 2 :: 3 :: 4 :: 5 :: 6 :: 7 :: 8 :: 9 :: 10 :: 11 :: 13 :: 14 :: 15 :: 16 :: 17 :: 18 :: 19 :: 12 :: 20 :: 21 :: 22 :: 23 :: []) (by kernel_rfl) (by kernel_rfl) rfl (by kernel_rfl) rfl (E2) (by simp only [picked, List.filterMap_cons, List.filterMap_nil, List.getElem?_cons_zero, List.getElem?_cons_succ, Option.map_some]; exact rfl) ?_
          iterate 1
            refine seq_want (v := ?_) rfl rfl (fun W hS => ?_) ?_
            rotate_left
            · first
                | (conv => lhs; simp [go_sem, k9]
                   first | done | exact rfl)
                | (have hS := hS rfl
                   obtain ⟨hbw, h1, h2⟩ := KB.out _ hS
                   obtain ⟨q0, q1⟩ := pl_two h1
                   obtain ⟨g0, g1⟩ := pl_two h2
                   obtain ⟨f1, f2, f3⟩ := H7.out _ hbw
                   conv => lhs; simp [go_sem, *, k9]
                   first | done | exact rfl)
            simp only [Act.put, List.setIfInBounds_toArray, List.set_cons_zero, List.set_cons_succ]
          refine seq_on rfl rfl fun K hK => ?_
          go_wp2_with (go_at_call 44; refine (INC.out _).mono ?_; rintro e y3' ⟨rfl, c3⟩)
          have Y3 := Lib.hid (then_ E2 c3 E2.size)
          refine hK _ _ Y3.out ?_
          clear hK K c3
          iterate 17
            refine seq_want (v := ?_) rfl rfl (fun W hS => ?_) ?_
            rotate_left
            · first
                | (conv => lhs; simp [go_sem, k9]
                   first | done | exact rfl)
                | (have hS := hS rfl
                   obtain ⟨hbw, h1, h2⟩ := KB.out _ hS
                   obtain ⟨q0, q1⟩ := pl_two h1
                   obtain ⟨g0, g1⟩ := pl_two h2
                   obtain ⟨f1, f2, f3⟩ := H7.out _ hbw
                   conv => lhs; simp [go_sem, *, k9]
                   first | done | exact rfl)
            simp only [Act.put, List.setIfInBounds_toArray, List.set_cons_zero, List.set_cons_succ]
          refine seq_on rfl rfl fun K hK => ?_
          go_wp2_with (go_at_call 47; refine (HA.out _ (KB.out _ Y3.out).1).mono ?_; rintro e y4' ⟨rfl, c4⟩)
          have Y4 := Lib.hid (then_ Y3.out c4 Y3.out.size)
          refine hK _ _ Y4.out ?_
          clear hK K c4
          refine seq_on rfl rfl fun K hK => ?_
          go_wp2_with (go_at_call 47; refine (HBB.out _ (KB.out _ Y4.out).1).mono ?_; rintro e y5' ⟨rfl, c5⟩)
          have Y5 := Lib.hid (then_ Y4.out c5 Y4.out.size)
          refine hK _ _ Y5.out ?_
          clear hK K c5
          refine seq_on rfl rfl fun K hK => ?_
          go_wp2_with (go_at_call 49; refine (CK.out _).mono ?_; rintro e y6' ⟨rfl, c6⟩)
          have Y6 := Lib.hid (then_ Y5.out c6 Y5.out.size)
          refine hK _ _ Y6.out ?_
          clear hK K c6
          iterate 2
            refine seq_want (v := ?_) rfl rfl (fun W hS => ?_) ?_
            rotate_left
            · first
                | (conv => lhs; simp [go_sem, k9]
                   first | done | exact rfl)
                | (have hS := hS rfl
                   obtain ⟨hbw, h1, h2⟩ := KB.out _ hS
                   obtain ⟨q0, q1⟩ := pl_two h1
                   obtain ⟨g0, g1⟩ := pl_two h2
                   obtain ⟨f1, f2, f3⟩ := H7.out _ hbw
                   conv => lhs; simp [go_sem, *, k9]
                   first | done | exact rfl)
            simp only [Act.put, List.setIfInBounds_toArray, List.set_cons_zero, List.set_cons_succ]
          refine seq_end ?_
          obtain ⟨p1, p2, p3⟩ := (KB.out _ Y6.out).2.1.at_
          by_cases h5 : 512 ≤ n
          · obtain rfl : Z = 18 := by rw [ZD.out, if_neg (by decide), if_pos (.inl h5)]
            go_wp2
            go_ret
            exact ⟨rfl, (KB.out _ Y6.out).1⟩
          · by_cases h6 : 1024 ≤ m
            · obtain rfl : Z = 18 := by rw [ZD.out, if_neg (by decide), if_pos (.inr h6)]
              go_wp2
              go_ret
              exact ⟨rfl, (KB.out _ Y6.out).1⟩
            · obtain rfl : Z = 0 := by rw [ZD.out, if_neg (by decide), if_neg (by omega)]
              go_wp2
              go_ret
              exact ⟨rfl, (KB.out _ Y6.out).1⟩
  · have hb := rtB_not hrt
    rw [hb] at RG ⊢
    rw [if_neg (by decide)]
    clear hb hrt AT EX INC hcl'
    generalize vs.length = n at *
    generalize es.length = m at *
    obtain ⟨p1, p2, p3⟩ := OB.out.at_
    go_enter Try.func33, Try.ntmps33
    go_wp2_with (go_at_call 24; refine (RG.out _ BB.out).mono ?_; rintro e w1 ⟨rfl, b1⟩; have B1 := Lib.hid (then_ BB.out b1 BB.out.size); have O1 := Lib.hid (OB.out.keep b1); clear b1)
    go_ret
    exact ⟨rfl, B1.out⟩
end
end Go.Proofs.Ytdkmclaihojknaa.Pl